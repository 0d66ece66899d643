"""Points [40] and [41]: covers."""

import unittest

from leastguards.forced import is_cover, keepable, standings
from leastguards.plants import Plant
from leastguards.views import View, seeing
from tests.helper import (DEEP_LIST, DEEP_TUPLE, all_things, looped_list, no_integers, sample_plant,
                          sample_view, sight_cycles, wide_plant)
from tests.slow import cases, make_plant, make_views


def kept_plant():
    """A plant that guards with kept_view keep: after go, which is wanted, up is barred."""
    return Plant(0, [(0, "go", 1), (1, "up", 2), (0, "up", 2), (1, "low", 0)], [0, 2], [1])


def kept_view():
    return View({"go": "g"}, ["up", "low"])


COVER = [(0, (0, 2)), (1, (1,)), (2, (0, 2))]


def is_right(thing, plant=None, views=None):
    """What is_cover tells, for kept_plant and kept_view if no others are given."""
    return is_cover(plant or kept_plant(), views or [kept_view()], thing)


class RightCoverTest(unittest.TestCase):
    def test_all_standings(self):
        self.assertEqual(standings(kept_plant(), [kept_view()]), COVER)
        self.assertIs(is_right(COVER), True)

    def test_the_order_has_no_meaning(self):
        self.assertIs(is_right(COVER[::-1]), True)
        self.assertIs(is_right(COVER[1:] + COVER[:1]), True)

    def test_a_standing_may_occur_more_than_once(self):
        self.assertIs(is_right(COVER * 2), True)
        self.assertIs(is_right([COVER[0]] * 1000 + COVER), True)

    def test_further_standings(self):
        # No forced run leads to these. At (1, (2,)) no step is forced, and after it nothing.
        for more in ([(1, (2,))], [(1, ())], [(0, ()), (1, ())], [(2, (0, 1, 2))],
                     [(0, (2,)), (1, ())], [(2, ())]):
            self.assertIs(is_right(COVER + more), True, more)

    def test_a_plant_without_forced_steps(self):
        plant = Plant(5, [(5, "go", 6)], [], [0])
        self.assertIs(is_right([(5, (5,))], plant, [View({}, ["go"])]), True)
        self.assertIs(is_right([(5, (5,))], plant, [View()]), False)

    def test_several_views(self):
        plant, views = kept_plant(), [kept_view(), View({"up": "u"}, [])]
        cover = standings(plant, views)
        self.assertEqual(cover, [(0, (0, 2), (0, 1)), (1, (1,), (0, 1)), (2, (0, 2), (2,))])
        self.assertIs(is_right(cover, plant, views), True)
        self.assertIs(is_right(cover, plant, tuple(views)), True)
        self.assertIs(is_right(cover, plant, views[::-1]), False)
        self.assertIs(is_right(cover, plant, views[:1]), False)
        self.assertIs(is_right(COVER, plant, views), False)
        self.assertIs(is_right(cover, plant, views + views[:1]), False)

    def test_the_standings_are_a_cover_just_of_what_is_kept(self):
        for source in cases(200, 40):
            plant, views = make_plant(source, 4, 9), make_views(source)
            cover = standings(plant, views)
            self.assertIs(is_cover(plant, views, cover), keepable(plant, views))

    def test_no_limit(self):
        # The standings of this plant are known by those of the one with a shorter lane.
        plant, view = wide_plant(20), seeing(["go"])
        cover = standings(wide_plant(19), [view]) + [(69, (0,))]
        self.assertEqual(len(cover), 2001)
        self.assertIs(is_right(cover, plant, [view]), True)
        self.assertIs(is_right(cover[:-1], plant, [view]), False)
        self.assertIs(is_right(cover, wide_plant(20, [31]), [view]), False)
        steps = sight_cycles(5, 7, 9, 11, 13)
        plant = Plant(0, steps, list(range(len(steps))))
        self.assertIs(is_right([(0, (0,))], plant, [view]), False)


class WrongCoverTest(unittest.TestCase):
    def test_without_the_first_standing(self):
        self.assertIs(is_right(COVER[1:]), False)
        self.assertIs(is_right([]), False)
        self.assertIs(is_right([(2, (0, 2))]), False)
        self.assertIs(is_right([(0, (0,)), (1, (1,)), (2, (0, 2)), (2, (0,))]), False)

    def test_without_what_a_forced_step_leads_to(self):
        self.assertIs(is_right(COVER[:2]), False)
        self.assertIs(is_right([COVER[0], COVER[2]]), False)
        # At (0, (0,)) go is forced and leads to (1, (1,)); up is forced and leads to (2, (0,)).
        self.assertIs(is_right(COVER + [(0, (0,))]), False)
        self.assertIs(is_right(COVER + [(0, (0,)), (2, (0,))]), True)

    def test_ends_are_taken_as_they_are_given(self):
        # The ends (0,) are not those of any row of sights, and up, unseen, does not change them.
        self.assertIs(is_right(COVER + [(0, (0,)), (2, (0, 2))]), False)
        self.assertIs(is_right(COVER + [(0, (0,)), (2, (0,))]), True)
        plant = Plant(0, [(0, "up", 1), (0, "low", 1)], [0])
        cover = standings(plant, [View()])
        self.assertEqual(cover, [(0, (0, 1)), (1, (0, 1))])
        self.assertIs(is_right(cover + [(0, (1,))], plant, [View()]), False)
        self.assertIs(is_right(cover + [(0, (1,)), (1, (1,))], plant, [View()]), True)

    def test_a_forced_step_that_is_barred(self):
        # The ends (0, 1) let up, as it is wanted in 0, and in 1 it is barred.
        self.assertIs(is_right(COVER + [(1, (0, 1))]), False)
        self.assertIs(is_right(COVER + [(1, (0,)), (2, (0,))]), False)
        self.assertIs(is_right(COVER + [(1, (0,))], kept_plant().giving_up([2])), False)
        plant = Plant(0, [(0, "go", 1), (1, "up", 2), (0, "up", 2), (1, "low", 0)], [0, 2])
        self.assertIs(is_right(COVER + [(1, (0,)), (2, (0,))], plant), True)

    def test_a_plant_that_cannot_be_kept(self):
        plant, views = sample_plant(), [sample_view()]
        self.assertIs(is_right(standings(plant, views), plant, views), False)

    def test_words_that_are_not_held_are_forced(self):
        self.assertIs(is_right(COVER, None, [View({"go": "g"}, ["up"])]), False)
        self.assertIs(is_right(COVER, None, [View({"go": "g"}, ["low"])]), False)

    def test_tuples_and_other_things_in_place_of_the_list(self):
        for thing in (tuple(COVER), {0: COVER[0]}, set(COVER), iter(COVER), None, True, "", 0):
            self.assertIs(is_right(thing), False)

    def test_lists_in_place_of_tuples(self):
        for item in ([2, (0, 2)], (2, [0, 2]), [2, [0, 2]], (2, []), []):
            self.assertIs(is_right(COVER + [item]), False)

    def test_items_that_are_no_standings(self):
        for item in ((), (2,), (2, 0), (2, (0,), (0,)), (2, None), (None, (0, 2)), ((0, 2), 2),
                     ("2", (0, 2)), (2, ("0",)), (2, "02"), (2, (None,)), (2, ((0,),)), (2.0, ()),
                     (True, (2,)), (1, (True,)), (2, (False, 2)), (2, (0, 2.0)), (2, {0: 2}),
                     (2, (0, 2), None), 2, "2", None):
            self.assertIs(is_right(COVER + [item]), False, item)
            self.assertIs(is_right([item] + COVER), False, item)

    def test_ends_that_do_not_strictly_ascend(self):
        for ends in ((2, 0), (0, 0), (0, 2, 2), (0, 1, 0), (2, 1), (0, 1, 2, 1), (2, 2)):
            self.assertIs(is_right(COVER + [(2, ends)]), False)

    def test_the_ends_of_each_view(self):
        plant, views = kept_plant(), [kept_view(), View({"up": "u"}, []), View()]
        cover = standings(plant, views)
        self.assertIs(is_right(cover + [(2, (), (0,), (1, 2))], plant, views), True)
        for wrong in ((1, 0), (0, 0), [0], None, (9,), 0, (True,)):
            for ends in ((wrong, (), ()), ((), wrong, ()), ((), (), wrong)):
                self.assertIs(is_right(cover + [(2, *ends)], plant, views), False)

    def test_states_that_are_not_reached(self):
        plant = Plant(0, kept_plant().steps + [(7, "go", 8)], [0, 2], [1])
        self.assertIs(is_right(COVER, plant), True)
        for item in ((7, ()), (8, ()), (2, (7,)), (2, (0, 8)), (3, ()), (-1, ()), (2, (-1,)),
                     (99, ()), (2, (99,)), (100, ()), (2, (100,)), (10 ** 6000, ()),
                     (2, (0, 10 ** 6000)), (2, (-(10 ** 6000), 0))):
            self.assertIs(is_right(COVER + [item], plant), False)

    def test_things_of_all_kinds(self):
        for thing in all_things():
            for cover in (thing, [thing], COVER + [thing], [thing] + COVER):
                self.assertIs(is_right(cover), False)
            if not isinstance(thing, tuple) or len(thing) > 0:
                self.assertIs(is_right(COVER + [(2, thing)]), False)
        for thing in no_integers():
            self.assertIs(is_right(COVER + [(thing, ())]), False)
            self.assertIs(is_right(COVER + [(2, (thing,))]), False)
            self.assertIs(is_right(COVER + [(2, (0, thing))]), False)

    def test_nested_deep(self):
        for thing in (DEEP_LIST, [DEEP_LIST], [DEEP_TUPLE], COVER + [(2, DEEP_TUPLE)],
                      COVER + [(DEEP_TUPLE, ())], COVER + [(2, (DEEP_LIST,))], looped_list()):
            self.assertIs(is_right(thing), False)


if __name__ == "__main__":
    unittest.main()
