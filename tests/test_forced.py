"""Points [33] to [37]: standings and forced runs."""

import unittest

from leastguards.errors import BadEntry, BadViews
from leastguards.forced import (beyond, breach, exact, forced, is_cover, is_forced, keepable,
                                standings)
from leastguards.guards import least_guard
from leastguards.letting import lets
from leastguards.plants import Plant
from leastguards.views import View, seeing
from tests.helper import (DEEP_LIST, DEEP_TUPLE, all_things, assert_refused, assert_refused_at,
                          assert_too_many, far_plant, no_integers, no_rows, no_views, sample_plant,
                          sample_view, sight_cycles, wide_plant)
from tests.slow import (all_standings, cases, forced_runs_up_to, is_wanted_run, make_plant,
                        make_views, runs_up_to, standing_after)

LENGTH = 5


def callers():
    """Each function that takes views, as a function of the views alone."""
    plant = sample_plant()
    return [lambda views: standings(plant, views), lambda views: forced(plant, views, 3),
            lambda views: is_forced(plant, views, ((), ())), lambda views: keepable(plant, views),
            lambda views: breach(plant, views), lambda views: is_cover(plant, views, []),
            lambda views: exact(plant, views), lambda views: beyond(plant, views)]


def eye(lane=()):
    """A view for wide_plant, which can hold the words of lane."""
    return seeing(["go"], lane)


def lane_plant():
    """The plant lane of the examples in the document's interface."""
    return Plant(0, [(0, "go", 1), (0, "hop", 2), (1, "end", 3), (2, "end", 3)], [0, 1, 2], [3])


class RefusedViewsTest(unittest.TestCase):
    def test_views_that_are_no_row(self):
        for call in callers():
            for thing in no_rows() + [sample_view(), {0: sample_view()}]:
                assert_refused_at(self, BadViews, -1, lambda: call(thing))

    def test_0_and_4_views_and_more(self):
        view = sample_view()
        for call in callers():
            for thing in ([], (), [view] * 4, (view,) * 4, [None] * 4, [view] * 100):
                assert_refused_at(self, BadViews, -1, lambda: call(thing))

    def test_1_to_3_views(self):
        view = sample_view()
        for call in callers():
            for thing in ([view], (view,), [view] * 2, [view] * 3, (View(), view, view)):
                call(thing)

    def test_items_that_are_no_views(self):
        view = sample_view()
        for call in callers():
            for thing in no_views():
                assert_refused_at(self, BadViews, 0, lambda: call([thing]))
                assert_refused_at(self, BadViews, 1, lambda: call((view, thing, None)))
                assert_refused_at(self, BadViews, 2, lambda: call([view, view, thing]))

    def test_views_are_checked_first(self):
        assert_refused_at(self, BadViews, 0, lambda: forced(sample_plant(), [None], 99))
        assert_refused_at(self, BadViews, -1, lambda: is_forced(sample_plant(), [], DEEP_TUPLE))
        assert_refused_at(self, BadViews, -1, lambda: is_cover(sample_plant(), 5, DEEP_LIST))
        assert_refused_at(self, BadViews, 1, lambda: keepable(wide_plant(20), [eye(), 0]))


class StandingsTest(unittest.TestCase):
    def test_the_example_of_the_interface(self):
        found = standings(sample_plant(), [sample_view()])
        self.assertEqual(found, [(0, (0,)), (0, (0, 1, 2)), (1, (0, 1, 2)), (2, (0, 1, 2)),
                                 (3, (0,))])
        self.assertIs(type(found), list)
        for standing in found:
            self.assertIs(type(standing), tuple)
            self.assertIs(type(standing[1]), tuple)

    def test_a_start_without_steps(self):
        plant = Plant(7, [(0, "go", 1)], [0], [])
        self.assertEqual(standings(plant, [sample_view()]), [(7, (7,))])
        self.assertEqual(standings(plant, [View(), sample_view()]), [(7, (7,), (7,))])

    def test_one_item_more_than_views(self):
        plant, view = sample_plant(), sample_view()
        for views in ([view], [view, View()], [View(), view, view]):
            for standing in standings(plant, views):
                self.assertEqual(len(standing), len(views) + 1)

    def test_the_first_ends_have_unseen_wanted_steps(self):
        plant = Plant(0, [(0, "go", 1), (1, "up", 2), (0, "low", 3)], [0, 1], [2])
        self.assertIn((0, (0, 1, 2)), standings(plant, [View()]))
        self.assertIn((0, (0, 1)), standings(plant, [seeing(["up"])]))
        self.assertIn((0, (0,)), standings(plant, [seeing(["go", "up"])]))

    def test_empty_ends(self):
        plant = Plant(0, [(0, "go", 1), (1, "up", 2), (1, "low", 3)], [1], [])
        self.assertEqual(standings(plant, [seeing(["go"])]),
                         [(0, (0,)), (1, ()), (2, ()), (3, ())])
        # With empty ends the view holds all that it can hold.
        self.assertEqual(standings(plant, [seeing(["go"], ["up"])]), [(0, (0,)), (1, ()), (3, ())])

    def test_all_words_with_the_sight_count(self):
        steps = [(0, "go", 1), (0, "hop", 2), (0, "low", 3), (1, "up", 4)]
        plant = Plant(0, steps, [0, 1, 3], [])
        view = View({"go": "a", "hop": "a", "low": "a", "up": "b"}, ["up"])
        self.assertEqual(standings(plant, [view]),
                         [(0, (0,)), (1, (1, 2)), (2, (1, 2)), (3, (1, 2)), (4, (4,))])

    def test_runs_go_on_after_barred_steps(self):
        plant = Plant(0, [(0, "go", 1), (1, "go", 2), (2, "up", 3)], [], [0, 1, 2])
        self.assertEqual(standings(plant, [View()]), [(0, (0,)), (1, (0,)), (2, (0,)), (3, (0,))])
        self.assertEqual(standings(plant, [View({}, ["up"])]), [(0, (0,)), (1, (0,)), (2, (0,))])

    def test_a_word_held_by_one_view_is_held(self):
        plant = Plant(0, [(0, "go", 1), (0, "up", 2)], [1], [0])
        for views in ([View({}, ["go"])], [View(), View({}, ["go"])],
                      [View({}, ["up"]), View({}, ["go", "up"])]):
            self.assertEqual({standing[0] for standing in standings(plant, views)}, {0, 2})
        self.assertEqual({standing[0] for standing in standings(plant, [View({}, ["up"])])},
                         {0, 1, 2})

    def test_ascending(self):
        for source in cases(60, 20):
            found = standings(make_plant(source, 4, 10), make_views(source))
            self.assertEqual(found, sorted(set(found)))

    def test_against_the_slow_search(self):
        for source in cases(200, 21):
            plant, views = make_plant(source, 4, 10), make_views(source)
            self.assertEqual(standings(plant, views), all_standings(plant, views))

    def test_state_99(self):
        plant = Plant(99, [(99, "go", 98), (98, "go", 99)], [0, 1])
        self.assertEqual(standings(plant, [seeing(["go"])]), [(98, (98,)), (99, (99,))])
        self.assertEqual(standings(plant, [View()]), [(98, (98, 99)), (99, (98, 99))])


class ForcedTest(unittest.TestCase):
    def test_the_example_of_the_interface(self):
        told = forced(sample_plant(), [sample_view()], 3)
        self.assertEqual(told, ((1, 3), ((None,), ((0, 2),))))

    def test_kinds_of_values(self):
        run, reasons = forced(sample_plant(), [sample_view(), View()], 3)
        for thing in (run, reasons, reasons[0], reasons[1], reasons[1][0]):
            self.assertIs(type(thing), tuple)

    def test_the_least_of_several_shortest_runs(self):
        steps = [(0, "go", 2), (0, "go", 1), (1, "up", 3), (2, "up", 3), (3, "low", 0),
                 (0, "up", 5)]
        plant = Plant(0, steps, [])
        self.assertEqual(forced(plant, [View()], 4), ((0, 3, 4), ((None,), (None,), (None,))))

    def test_a_shorter_run_goes_before_a_lesser_one(self):
        plant = Plant(0, [(0, "go", 1), (1, "go", 2), (0, "up", 2), (2, "low", 0)], [])
        self.assertEqual(forced(plant, [View()], 3)[0], (2, 3))
        self.assertEqual(forced(plant, [View({}, ["up"])], 3)[0], (0, 1, 3))

    def test_steps_that_no_forced_run_has(self):
        self.assertIsNone(forced(Plant(0, [(0, "go", 1), (2, "up", 0)], [0]), [View()], 1))
        self.assertIsNone(forced(Plant(0, [(0, "go", 1)], []), [View({}, ["go"])], 0))
        self.assertIsNone(forced(Plant(0, [(0, "go", 1)], []), [View(), View({}, ["go"])], 0))

    def test_a_step_that_is_forced_only_later(self):
        # Only after go has been seen twice some wanted run goes on by up.
        plant = Plant(0, [(0, "go", 1), (1, "go", 2), (2, "up", 0), (0, "go", 0), (0, "up", 0)],
                      [0, 1, 2])
        self.assertEqual(forced(plant, [seeing(["go", "up"], ["up"])], 4),
                         ((3, 3, 4), ((None,), (None,), ((0, 1, 2),))))

    def test_wrong_numbers(self):
        plant, views = sample_plant(), [sample_view()]
        for thing in [-1, 5, 60, 10 ** 6000] + no_integers():
            assert_refused(self, BadEntry, "value", thing, lambda: forced(plant, views, thing))

    def test_the_number_is_checked_before_the_standings_are_counted(self):
        plant = wide_plant(20)
        for thing in (51, -1, True, None):
            assert_refused(self, BadEntry, "value", thing, lambda: forced(plant, [eye()], thing))

    def test_against_the_slow_search(self):
        for source in cases(150, 22):
            plant, views = make_plant(source, 4, 9), make_views(source)
            runs = forced_runs_up_to(plant, views, LENGTH)
            for number in range(len(plant.steps)):
                check_shortest(self, forced(plant, views, number),
                               [run for run in runs if run and run[-1] == number])

    def test_a_long_run(self):
        plant, views = far_plant()
        run = forced(plant, views, 41)[0]
        # The plant goes into the first cycle and 1679 times on: -1 modulo 7, 15 and 16.
        self.assertEqual(run, tuple([0] + [1 + at % 7 for at in range(1679)] + [41]))


def check_shortest(case, paper, found):
    """The run of the paper is the first found one; where none was found it may be a longer one."""
    if found:
        case.assertEqual(paper[0], found[0])
    elif paper is not None:
        case.assertGreater(len(paper[0]), LENGTH)


class KeepableTest(unittest.TestCase):
    def test_the_examples_of_the_interface(self):
        self.assertIs(keepable(sample_plant(), [sample_view()]), False)
        self.assertIs(keepable(lane_plant(), [seeing(["go"], ["end", "hop"])]), True)
        self.assertIs(keepable(lane_plant(), [seeing([], ["end"])]), False)
        self.assertIs(keepable(lane_plant(), [seeing(["go", "hop"])]), False)

    def test_two_views_may_do_what_neither_does(self):
        steps = [(0, "go", 1), (0, "hop", 2), (1, "up", 3), (1, "low", 3), (2, "up", 3),
                 (2, "low", 3)]
        plant = Plant(0, steps, [0, 1, 2, 5], [3, 4])
        one, other = seeing(["go"], ["up"]), seeing(["hop"], ["low"])
        self.assertIs(keepable(plant, [one]), False)
        self.assertIs(keepable(plant, [other]), False)
        self.assertIs(keepable(plant, [one, other]), True)
        self.assertIs(keepable(plant, (other, View(), one)), True)

    def test_no_barred_steps(self):
        self.assertIs(keepable(Plant(0, [(0, "go", 1)], []), [View()]), True)
        self.assertIs(keepable(Plant(0, [(0, "go", 1)], [0]), [View()]), True)

    def test_a_barred_step_that_no_run_has(self):
        self.assertIs(keepable(Plant(0, [(0, "go", 1), (2, "go", 1)], [0], [1]), [View()]), True)

    def test_breach_and_keepable_agree(self):
        kept = 0
        for source in cases(200, 23):
            plant, views = make_plant(source, 4, 9), make_views(source)
            runs = forced_runs_up_to(plant, views, LENGTH)
            told = breach(plant, views)
            check_shortest(self, told, [run for run in runs if run and run[-1] in plant.barred])
            self.assertIs(keepable(plant, views), told is None)
            kept += told is None
        self.assertGreater(kept, 20)
        self.assertLess(kept, 180)


class BreachTest(unittest.TestCase):
    def test_the_example_of_the_interface(self):
        self.assertEqual(breach(sample_plant(), [sample_view()]), ((1, 3), ((None,), ((0, 2),))))

    def test_the_least_of_several_shortest_runs(self):
        plant = Plant(0, [(0, "go", 1), (0, "low", 1), (1, "up", 0), (1, "low", 0)], [0], [2, 3])
        self.assertEqual(breach(plant, [View()])[0], (0, 2))
        self.assertEqual(breach(plant, [View({}, ["up"])])[0], (0, 3))
        self.assertEqual(breach(plant, [View({}, ["up", "low"])]), None)
        plant = Plant(0, [(0, "go", 1), (0, "low", 1), (1, "up", 0), (1, "low", 0)], [0], [1, 2])
        self.assertEqual(breach(plant, [View()])[0], (1,))

    def test_a_run_may_have_a_barred_step_before_the_last_one(self):
        plant = Plant(0, [(0, "go", 1), (1, "up", 2)], [], [0, 1])
        self.assertEqual(forced(plant, [View()], 1), ((0, 1), ((None,), (None,))))
        self.assertEqual(breach(plant, [View()]), ((0,), ((None,),)))

    def test_a_long_run(self):
        plant, views = far_plant()
        self.assertEqual(len(breach(plant, views)[0]), 1681)
        self.assertIs(keepable(plant, views), False)
        views = [View(view.sights, ["up", "mid"]) for view in views]
        self.assertEqual(len(breach(plant, views)[0]), 1681)


class ExactTest(unittest.TestCase):
    def test_a_view_that_tells_and_holds_all(self):
        plant = Plant(0, [(0, "go", 1), (1, "up", 0), (0, "up", 1), (1, "low", 0)], [0, 1], [3])
        self.assertIs(exact(plant, [seeing(["go", "up"], ["go", "up", "low"])]), True)
        self.assertIsNone(beyond(plant, [seeing(["go", "up"], ["go", "up", "low"])]))

    def test_steps_that_are_neither_wanted_nor_barred(self):
        plant = Plant(0, [(0, "go", 1), (0, "up", 1)], [0], [])
        self.assertIs(exact(plant, [View()]), False)
        self.assertIs(keepable(plant, [View()]), True)
        self.assertEqual(beyond(plant, [View()]), ((1,), ((None,),)))
        self.assertIs(exact(plant, [View({}, ["up"])]), True)

    def test_all_steps_are_wanted(self):
        plant = Plant(0, [(0, "go", 1), (0, "up", 1)], [0, 1], [])
        self.assertIs(exact(plant, [View({}, ["up"])]), True)
        self.assertIsNone(beyond(plant, [View({}, ["up"])]))

    def test_an_unwanted_step_that_no_run_has(self):
        plant = Plant(0, [(0, "go", 1), (2, "up", 1)], [0], [1])
        self.assertIs(exact(plant, [View()]), True)

    def test_barred_steps_are_not_wanted(self):
        self.assertIs(exact(sample_plant(), [sample_view()]), False)
        self.assertEqual(beyond(sample_plant(), [sample_view()]),
                         ((1, 3), ((None,), ((0, 2),))))

    def test_against_the_slow_search(self):
        told_exact = 0
        for source in cases(200, 24):
            plant, views = make_plant(source, 4, 9), make_views(source)
            runs = forced_runs_up_to(plant, views, LENGTH)
            told = beyond(plant, views)
            check_shortest(self, told, [run for run in runs if not is_wanted_run(plant, run)])
            self.assertIs(exact(plant, views), told is None)
            told_exact += told is None
        self.assertGreater(told_exact, 20)
        self.assertLess(told_exact, 180)


class LeastRunsTest(unittest.TestCase):
    def test_forced_runs_are_those_that_the_least_guards_let(self):
        for source in cases(100, 25):
            plant, views = make_plant(source), make_views(source)
            guards = [least_guard(plant, view) for view in views]
            runs = forced_runs_up_to(plant, views, LENGTH)
            self.assertEqual(runs, [run for run in runs_up_to(plant, LENGTH)
                                    if lets(plant, guards, run)])

    def test_standings_are_those_after_forced_runs(self):
        for source in cases(60, 26):
            plant, views = make_plant(source), make_views(source)
            found = standings(plant, views)
            for run in forced_runs_up_to(plant, views, 4):
                self.assertIn(standing_after(plant, views, run), found)


class LimitTest(unittest.TestCase):
    def test_2000_standings(self):
        plant = wide_plant(19)
        self.assertEqual(len(standings(plant, [eye()])), 2000)
        self.assertEqual(forced(plant, [eye()], 31)[0], (31,))
        self.assertIs(keepable(plant, [eye()]), True)
        self.assertIsNone(breach(plant, [eye()]))
        self.assertIs(exact(plant, [eye()]), False)
        self.assertEqual(beyond(plant, [eye()])[0], (31,))

    def test_2001_standings(self):
        plant = wide_plant(20, [31])
        for call in (lambda: standings(plant, [eye()]), lambda: forced(plant, [eye()], 31),
                     lambda: forced(plant, [eye()], 0), lambda: keepable(plant, [eye()]),
                     lambda: breach(plant, [eye()]), lambda: exact(plant, [eye()]),
                     lambda: beyond(plant, [eye()])):
            assert_too_many(self, 2000, call)

    def test_many_more_standings(self):
        steps = sight_cycles(5, 7, 9, 11, 13)
        plant = Plant(0, steps, list(range(len(steps))))
        assert_too_many(self, 2000, lambda: keepable(plant, [eye()]))

    def test_the_ends_of_each_view_count(self):
        # The first view sees nothing, so it has the same ends after every run.
        assert_too_many(self, 2000, lambda: standings(wide_plant(20), [View(), eye()]))
        self.assertEqual(len(standings(wide_plant(20), [View()])), 49)
        self.assertEqual(len(standings(wide_plant(19), [eye(), View(), eye()])), 2000)

    def test_only_standings_of_forced_runs_count(self):
        self.assertEqual(len(standings(wide_plant(20), [eye(["hop"])])), 1981)
        self.assertIs(keepable(wide_plant(20, [31]), [eye(["hop"])]), True)


class OwnershipTest(unittest.TestCase):
    def test_arguments_are_not_changed(self):
        plant, views = sample_plant(), [sample_view(), View()]
        paper, cover = breach(plant, views), standings(plant, views)
        for call in (exact, beyond, keepable):
            call(plant, views)
        told = list(cover)
        is_cover(plant, views, told)
        is_forced(plant, views, paper)
        self.assertEqual(plant, sample_plant())
        self.assertEqual(views, [sample_view(), View()])
        self.assertEqual(told, cover)

    def test_returned_lists_are_new(self):
        plant, views = sample_plant(), [sample_view()]
        standings(plant, views).clear()
        self.assertEqual(len(standings(plant, views)), 5)

    def test_views_may_change_between_calls(self):
        plant, view = sample_plant(), sample_view()
        self.assertIs(keepable(plant, [view]), False)
        view["low"] = "l"
        view.hold_just(["up", "go"])
        self.assertEqual(standings(plant, [view]), all_standings(plant, [view]))

    def test_any_thing_may_be_judged(self):
        plant, views = sample_plant(), [sample_view()]
        for thing in all_things():
            self.assertIs(is_forced(plant, views, thing), False)
            self.assertIs(is_cover(plant, views, thing), False)


if __name__ == "__main__":
    unittest.main()
