"""Points [44] and [45]: least sets of words to see, of words to hold, and of steps to give up."""

import unittest

from leastguards.choose import least_given_up, least_holds, least_sights
from leastguards.errors import BadEntry, BadView, BadViews, BadWord
from leastguards.forced import keepable, standings
from leastguards.plants import Plant
from leastguards.views import View, seeing
from tests.helper import (DEEP_DICT, DEEP_LIST, DEEP_TUPLE, assert_refused,
                          assert_refused_at, assert_too_many, caught, lane_steps, no_dicts,
                          no_integers, no_names, no_rows, no_views, sample_plant, sample_view,
                          sight_cycles, wide_plant, words_of)
from tests.slow import cases, least_of, make_plant, make_view, make_views


def lane_plant():
    """The plant lane of the examples in the document's interface."""
    return Plant(0, [(0, "go", 1), (0, "hop", 2), (1, "end", 3), (2, "end", 3)], [0, 1, 2], [3])


def many_words_plant(many):
    """A plant with so many words and wanted steps, and a barred step stop after all of them."""
    steps = [(0, word, 1) for word in words_of(many)[:8]]
    steps += [(1, word, 0) for word in words_of(many)[8:]]
    return Plant(0, steps + [(1, "stop", 0)], list(range(many)), [many])


def open_plant():
    """A plant with few standings by seeing(["go"]), but with more than 2000 if step 31 is given up.

    By step 31 the plant may go into the cycles after any go, so that the ends are soon all states.
    """
    steps = sight_cycles(5, 11, 12) + [(0, "go", 0)]
    return Plant(0, steps + lane_steps(20), list(range(32)))


def callers():
    """Each function that takes among, as a function of the plant and among alone."""
    return [lambda plant, among: least_sights(plant, [], among),
            lambda plant, among: least_holds(plant, {"go": "g"}, among),
            lambda plant, among: least_given_up(plant, [View()], among)]


class AmongTest(unittest.TestCase):
    def test_no_rows(self):
        for call in callers():
            for thing in no_rows() + [{"go": 1}, {0: 1}]:
                self.check_entry_none(lambda: call(lane_plant(), thing))

    def check_entry_none(self, call):
        error = caught(call)
        self.assertIs(type(error), BadEntry)
        self.assertIsNone(error.value)

    def test_more_than_8_items(self):
        plant = many_words_plant(9)
        for call, items in zip(callers(), (plant.words, plant.words, plant.wanted)):
            call(plant, items[:8])
            call(plant, tuple(items[:8]))
            for among in (items[:9], tuple(items[:9]), items[:1] * 9, [None] * 9, [DEEP_LIST] * 99):
                assert_too_many(self, 8, lambda: call(plant, among))

    def test_wrong_words(self):
        plant = lane_plant()
        for call in callers()[:2]:
            for thing in ["up", "halt", 1, 0] + no_names():
                assert_refused(self, BadEntry, "value", thing, lambda: call(plant, [thing]))
                assert_refused(self, BadEntry, "value", thing, lambda: call(plant, ("go", thing, 5)))

    def test_words_that_stand_earlier(self):
        plant = lane_plant()
        word = "".join(["h", "op"])
        for call in callers()[:2]:
            assert_refused(self, BadEntry, "value", word, lambda: call(plant, ["hop", "go", word]))
            assert_refused(self, BadEntry, "value", word, lambda: call(plant, [word, word, None]))

    def test_wrong_numbers(self):
        plant = lane_plant()
        for thing in [3, 4, -1, 10 ** 6000, "go"] + no_integers():
            assert_refused(self, BadEntry, "value", thing,
                           lambda: least_given_up(plant, [View()], [thing]))
            assert_refused(self, BadEntry, "value", thing,
                           lambda: least_given_up(plant, [View()], (1, thing, None)))

    def test_numbers_that_stand_earlier(self):
        for among in ([0, 0], (2, 1, 2), [1, 1, None], [0, 2, 0, 3]):
            error = caught(lambda: least_given_up(lane_plant(), [View()], among))
            self.assertIs(type(error), BadEntry)
            self.assertEqual(error.value, {0: 0, 2: 2, 1: 1}[among[0]])

    def test_among_is_checked_before_standings_are_counted(self):
        plant, views = wide_plant(20), [seeing(["go"])]
        for thing in ("up", None, 31.0):
            assert_refused(self, BadEntry, "value", thing,
                           lambda: least_sights(plant, [], ["go", thing]))
            assert_refused(self, BadEntry, "value", thing,
                           lambda: least_holds(plant, {"go": "g"}, [thing]))
            assert_refused(self, BadEntry, "value", thing,
                           lambda: least_given_up(plant, views, [thing]))
        assert_too_many(self, 8, lambda: least_given_up(plant, views, list(range(9))))

    def test_empty_rows(self):
        for call in callers():
            self.assertEqual(call(lane_plant(), []), [])
            self.assertEqual(call(Plant(0, [(0, "go", 1)], [0]), ()), [()])


class LeastSightsTest(unittest.TestCase):
    def test_the_example_of_the_interface(self):
        self.assertEqual(least_sights(lane_plant(), ["end"], ["hop", "go"]), [("go",), ("hop",)])

    def test_the_whole_set_does_not_do(self):
        self.assertEqual(least_sights(lane_plant(), [], ["hop", "go", "end"]), [])
        self.assertEqual(least_sights(lane_plant(), ["end"], ["end"]), [])

    def test_the_empty_set_does(self):
        self.assertEqual(least_sights(lane_plant().giving_up([2]), ["end"], ["hop", "go"]), [()])
        self.assertEqual(least_sights(lane_plant(), ["hop", "end"], ["go"]), [("go",)])

    def test_holds_that_are_not_words_of_the_plant(self):
        self.assertEqual(least_sights(lane_plant(), ["halt", "end", "end"], ("hop", "go", "end")),
                         [("go",), ("hop",)])

    def test_sets_of_several_words_and_their_order(self):
        # The barred steps are told from the wanted ones by a, or by b and c together.
        steps = [(0, "a", 1), (0, "b", 2), (2, "c", 3), (0, "c", 4), (4, "b", 5), (1, "up", 9),
                 (3, "up", 9), (5, "up", 9)]
        plant = Plant(0, steps, [0, 1, 2, 3, 4, 5, 6], [7])
        self.assertEqual(least_sights(plant, ["up"], ["c", "b", "a"]), [("b", "c")])
        steps = [(0, "a", 2), (0, "b", 3), (0, "d", 3), (2, "up", 9), (3, "up", 9)]
        plant = Plant(0, steps, [0, 1, 2, 3], [4])
        self.assertEqual(least_sights(plant, ["up"], ["d", "b", "a"]), [("a",), ("b", "d")])

    def test_holds_that_are_no_row(self):
        for thing in no_rows():
            assert_refused(self, BadView, "value", thing,
                           lambda: least_sights(lane_plant(), thing, None))

    def test_items_of_holds_that_are_no_names(self):
        for thing in no_names():
            assert_refused(self, BadWord, "value", thing,
                           lambda: least_sights(lane_plant(), [thing], None))
            assert_refused(self, BadWord, "value", thing,
                           lambda: least_sights(lane_plant(), ("end", thing, 5), [5] * 9))

    def test_against_the_words_of_the_document(self):
        sets = 0
        for source in cases(150, 60):
            plant, holds = make_plant(source, 5, 12), make_view(source).holds
            among = plant.words[::-1]
            found = least_of(among, lambda some: keepable(plant, [seeing(some, holds)]))
            self.assertEqual(least_sights(plant, holds, among), found)
            sets += found != [] and found != [()]
        self.assertGreater(sets, 3)

    def test_too_many_standings_by_one_choice(self):
        plant = wide_plant(20)
        for among in (["go"], ["hop", "go"]):
            assert_too_many(self, 2000, lambda: least_sights(plant, [], among))
        self.assertEqual(least_sights(plant, [], ["hop"]), [()])
        self.assertEqual(least_sights(plant, ["hop"], ["hop", "go"]), [()])
        self.assertEqual(least_sights(wide_plant(19), [], ["go"]), [()])


class LeastHoldsTest(unittest.TestCase):
    def test_the_example_of_the_interface(self):
        self.assertEqual(least_holds(lane_plant(), {"go": "go"}, ["end", "hop"]), [("end",)])

    def test_none_is_the_empty_dict(self):
        plant = Plant(0, [(0, "go", 1), (0, "up", 2)], [0], [1])
        for sights in (None, {}):
            self.assertEqual(least_holds(plant, sights, ["go", "up"]), [("up",)])
            self.assertEqual(least_holds(lane_plant(), sights, ["end", "hop"]), [])

    def test_several_words_with_one_sight(self):
        self.assertEqual(least_holds(lane_plant(), {"go": "a", "hop": "a"}, ["end"]), [])
        self.assertEqual(least_holds(lane_plant(), {"go": "a", "hop": "b"}, ["end"]), [("end",)])

    def test_the_empty_set_does(self):
        plant = Plant(0, [(0, "go", 1), (1, "up", 2)], [0, 1])
        self.assertEqual(least_holds(plant, {"go": "g"}, ["up", "go"]), [()])

    def test_several_sets_and_their_order(self):
        steps = [(0, "b", 1), (1, "c", 2), (2, "d", 3), (0, "a", 4), (4, "e", 3), (4, "d", 3)]
        plant = Plant(0, steps, [], [2, 4, 5])
        self.assertEqual(least_holds(plant, {}, ["e", "d", "c", "b", "a"]),
                         [("a", "b"), ("a", "c"), ("a", "d"), ("d", "e")])

    def test_wrong_sights(self):
        for thing in no_dicts():
            if thing is not None:
                assert_refused(self, BadView, "value", thing,
                               lambda: least_holds(lane_plant(), thing, None))
        for thing in ({"go": "G"}, {"go": None}, {"Go": "g"}, {1: "g"}, {"go": DEEP_TUPLE},
                      {"go": "g", "up": 5}, DEEP_DICT, View({"go": "g"})):
            assert_refused(self, BadView, "value", thing,
                           lambda: least_holds(lane_plant(), thing, [5] * 9))

    def test_against_the_words_of_the_document(self):
        sets = 0
        for source in cases(200, 61):
            plant, sights = make_plant(source, 4, 9), make_view(source).sights
            found = least_of(plant.words, lambda some: keepable(plant, [View(sights, some)]))
            self.assertEqual(least_holds(plant, sights, plant.words), found)
            sets += found != [] and found != [()]
        self.assertGreater(sets, 20)

    def test_too_many_standings_by_one_choice(self):
        # Without hop held there are 2001 standings, with it 1981.
        assert_too_many(self, 2000, lambda: least_holds(wide_plant(20), {"go": "g"}, ["hop"]))
        self.assertEqual(least_holds(wide_plant(19, [31]), {"go": "g"}, ["hop"]), [("hop",)])
        assert_too_many(self, 2000, lambda: least_holds(wide_plant(20, [31]), {"go": "g"}, ["hop"]))


class LeastGivenUpTest(unittest.TestCase):
    def test_the_example_of_the_interface(self):
        self.assertEqual(least_given_up(sample_plant(), [sample_view()], [0, 1, 2]), [(0,), (2,)])

    def test_the_order_of_among_has_no_meaning(self):
        for among in ([2, 1, 0], (1, 0, 2), [4, 2, 0, 1]):
            found = least_given_up(sample_plant(), [sample_view()], among)
            self.assertEqual(found, [(0,), (2,)])

    def test_the_whole_set_does_not_do(self):
        self.assertEqual(least_given_up(sample_plant(), [sample_view()], [1, 4]), [])
        self.assertEqual(least_given_up(lane_plant(), [View()], [0, 1, 2]), [])

    def test_the_empty_set_does(self):
        self.assertEqual(least_given_up(lane_plant(), [seeing(["go"], ["end"])], [0, 1, 2]), [()])

    def test_several_views(self):
        views = [seeing([], ["end"]), seeing([], ["hop"])]
        self.assertEqual(least_given_up(lane_plant(), views, [2, 1, 0]), [(0,), (1,), (2,)])
        self.assertEqual(least_given_up(lane_plant(), views[:1], [2, 1, 0]), [(0,), (2,)])
        self.assertEqual(least_given_up(lane_plant(), tuple(views[1:]), [2, 0]), [])
        self.assertEqual(least_given_up(lane_plant(), tuple(views[1:]), [2, 1, 0]), [(1,)])

    def test_sets_of_several_numbers(self):
        steps = [(0, "a", 1), (0, "b", 1), (1, "up", 2), (0, "c", 3), (3, "up", 2), (2, "up", 0)]
        plant = Plant(0, steps, [0, 1, 2, 3, 4], [5])
        self.assertEqual(least_given_up(plant, [View({}, ["up"])], [4, 3, 2, 1, 0]),
                         [(2, 3), (2, 4), (0, 1, 3), (0, 1, 4)])

    def test_wrong_views(self):
        view = sample_view()
        for thing in no_rows() + [[], [view] * 4]:
            assert_refused_at(self, BadViews, -1,
                              lambda: least_given_up(lane_plant(), thing, None))
        for thing in no_views():
            assert_refused_at(self, BadViews, 1,
                              lambda: least_given_up(lane_plant(), [view, thing, 5], [5] * 9))

    def test_against_the_words_of_the_document(self):
        sets = 0
        for source in cases(200, 62):
            plant, views = make_plant(source, 4, 9), make_views(source)
            among = plant.wanted[:8]
            found = least_of(among, lambda some: keepable(plant.giving_up(some), views))
            self.assertEqual(least_given_up(plant, views, among), found)
            sets += found != [] and found != [()]
        self.assertGreater(sets, 20)

    def test_too_many_standings_by_one_choice(self):
        plant, views = open_plant(), [seeing(["go"])]
        self.assertLess(len(standings(plant, views)), 1000)
        self.assertEqual(least_given_up(plant, views, [0]), [()])
        for among in ([31], (0, 31), [31, 5]):
            assert_too_many(self, 2000, lambda: least_given_up(plant, views, among))


class OwnershipTest(unittest.TestCase):
    def test_arguments_are_not_changed(self):
        plant, holds, among, sights = lane_plant(), ["end"], ["hop", "go"], {"go": "g"}
        views, numbers = [sample_view()], [2, 1, 0]
        least_sights(plant, holds, among)
        least_holds(plant, sights, among)
        least_given_up(plant, views, numbers)
        self.assertEqual(plant, lane_plant())
        self.assertEqual((holds, among, sights), (["end"], ["hop", "go"], {"go": "g"}))
        self.assertEqual((views, numbers), ([sample_view()], [2, 1, 0]))

    def test_kinds_of_values(self):
        for found in (least_sights(lane_plant(), ["end"], ["hop", "go"]),
                      least_holds(lane_plant(), {"go": "go"}, ["end", "hop"]),
                      least_given_up(sample_plant(), [sample_view()], [0, 1, 2])):
            self.assertIs(type(found), list)
            self.assertIs(type(found[0]), tuple)

    def test_returned_lists_are_new(self):
        for call in callers():
            call(lane_plant(), []).append(5)
            self.assertEqual(call(lane_plant(), []), [])


if __name__ == "__main__":
    unittest.main()
