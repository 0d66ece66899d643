"""Points [41], [44] and [46]: the cheapest pair, and lists against a cost."""

import itertools
import unittest

from leastguards.choose import cheapest, is_against
from leastguards.errors import BadCosts
from leastguards.forced import breach, forced, keepable
from leastguards.plants import Plant
from leastguards.views import View, seeing
from tests.helper import (DEEP_LIST, DEEP_TUPLE, KEY_DEPTH, all_things, assert_too_many, caught,
                          deep_tuple, looped_list, no_dicts, no_integers, sample_plant, wide_plant)
from tests.slow import cases, is_good_paper, make_plant, some_of, subsets_of

SEE = {"go": 3, "hop": 2}
HOLD = {"end": 5}


def lane_plant():
    """The plant lane of the examples in the document's interface."""
    return Plant(0, [(0, "go", 1), (0, "hop", 2), (1, "end", 3), (2, "end", 3)], [0, 1, 2], [3])


def twin_plant():
    """A plant in which go is told from hop by seeing either, and end, or low and up, be held."""
    steps = [(0, "go", 1), (0, "hop", 2), (1, "end", 3), (2, "end", 3), (1, "low", 3),
             (1, "up", 3)]
    return Plant(0, steps, [0, 1, 2], [3])


def paper_of(seen, held):
    return breach(lane_plant(), [seeing(seen, held)])


def right_list():
    """The list against the cost 7 of the examples in the document's interface."""
    return [((), ("end",), paper_of([], ["end"])), (("go", "hop"), (), paper_of(["go", "hop"], []))]


def is_right(thing, cost=7, see=None, hold=None):
    """What is_against tells of the plant lane, with the costs of the examples if none are given."""
    return is_against(lane_plant(), SEE if see is None else see, HOLD if hold is None else hold,
                      cost, thing)


def all_pairs(see, hold):
    return list(itertools.product(subsets_of(see), subsets_of(hold)))


def cost_of(see, hold, pair):
    return sum(see[word] for word in pair[0]) + sum(hold[word] for word in pair[1])


def cheapest_by_words(plant, see, hold):
    """The first three items of what cheapest returns, or None, by the words of the document."""
    keeping = [pair for pair in all_pairs(see, hold) if keepable(plant, [seeing(*pair)])]
    ranks = [(cost_of(see, hold, pair), len(pair[0]) + len(pair[1]), pair) for pair in keeping]
    return (min(ranks)[0], *min(ranks)[2]) if ranks else None


def is_good_item(plant, see, hold, item):
    """True if a tuple of two tuples of words and a paper stands right in a list against a cost."""
    seen, held, (run, reasons) = item
    return (seen in subsets_of(see) and held in subsets_of(hold)
            and is_good_paper(plant, [seeing(seen, held)], run, reasons)
            and run[-1] in plant.barred)


def is_good_list(plant, see, hold, cost, items):
    """True if a list of such tuples is one against the cost, by the words of the document."""
    if not all(is_good_item(plant, see, hold, item) for item in items):
        return False
    return all(any(set(pair[0]) <= set(item[0]) and set(pair[1]) <= set(item[1]) for item in items)
               for pair in all_pairs(see, hold) if cost_of(see, hold, pair) < cost)


def make_costs(source, plant):
    """Costs of some of the words of a plant, to see and to hold them."""
    words = plant.words[:4]
    return ({word: source.randint(1, 4) for word in some_of(source, words)},
            {word: source.randint(1, 4) for word in some_of(source, words + words[:2])})


class CostsTest(unittest.TestCase):
    def check_refused(self, word, see, hold):
        for call in (lambda: cheapest(lane_plant(), see, hold),
                     lambda: is_against(lane_plant(), see, hold, 7, right_list()),
                     lambda: is_against(lane_plant(), see, hold, None, DEEP_TUPLE)):
            error = caught(call)
            self.assertIs(type(error), BadCosts)
            self.assertTrue(error.word is word)

    def test_things_that_are_no_dicts(self):
        for thing in no_dicts():
            self.check_refused(None, thing, HOLD)
            self.check_refused(None, SEE, thing)

    def test_more_than_4_keys(self):
        five = {"go": 1, "hop": 1, "end": 1, "up": 1, "low": 1}
        self.check_refused(None, five, HOLD)
        self.check_refused(None, SEE, five)
        self.check_refused(None, {key: 0 for key in range(100)}, HOLD)

    def test_4_keys(self):
        plant = twin_plant()
        four = {"go": 1, "hop": 1, "end": 1, "up": 1}
        self.assertEqual(cheapest(plant, four, four)[:3], (2, ("go",), ("end",)))

    def test_words_that_the_plant_does_not_have(self):
        for word in ("up", "Go", "", "abcdefghijklm", 0, None, True, 1.5, (), ("go",), b"go",
                     deep_tuple(KEY_DEPTH), frozenset(["go"])):
            self.check_refused(word, {word: 1}, HOLD)
            self.check_refused(word, SEE, {"go": 1, word: 1})

    def test_wrong_costs(self):
        word = "hop"
        for cost in [0, -1, -(10 ** 6), 10 ** 6 + 1, 10 ** 6000, -(10 ** 6000)] + no_integers():
            self.check_refused(word, {"go": 1, word: cost, "end": None}, HOLD)
            self.check_refused(word, SEE, {"go": 1, word: cost, "up": 1})

    def test_the_least_and_the_greatest_cost(self):
        self.assertEqual(cheapest(lane_plant(), {"go": 10 ** 6, "hop": 10 ** 6}, {"end": 1})[:3],
                         (10 ** 6 + 1, ("go",), ("end",)))
        self.assertEqual(cheapest(lane_plant(), {"go": 1}, {"end": 10 ** 6})[0], 10 ** 6 + 1)

    def test_the_first_wrong_key_in_the_order_of_the_dict(self):
        for keys in (["up", "low", "go"], ["low", "go", "up"], ["go", "up", "low"]):
            wrong = [key for key in keys if key != "go"][0]
            self.check_refused(wrong, {key: 1 for key in keys}, HOLD)
            self.check_refused(wrong, SEE, {key: 1 for key in keys})
        self.check_refused("go", {"hop": 1, "go": 0, "up": 1}, HOLD)
        self.check_refused("up", {"hop": 1, "up": 1, "go": 0}, HOLD)

    def test_see_is_checked_before_hold(self):
        self.check_refused("up", {"up": 1}, None)
        self.check_refused("up", {"up": 1}, {"low": 1})
        self.check_refused("low", {}, {"low": 1})

    def test_costs_are_checked_before_standings_are_counted(self):
        plant = wide_plant(20)
        for see, hold in (({"go": 0}, {}), ({"go": 1}, {"go": 0})):
            for call in (lambda: cheapest(plant, see, hold),
                         lambda: is_against(plant, see, hold, 1, [])):
                self.assertIs(type(caught(call)), BadCosts)


class CheapestTest(unittest.TestCase):
    def test_the_example_of_the_interface(self):
        told = cheapest(lane_plant(), SEE, HOLD)
        self.assertEqual(told[:3], (7, ("hop",), ("end",)))
        self.assertIs(is_right(told[3]), True)
        self.assertTrue(is_good_list(lane_plant(), SEE, HOLD, 7, told[3]))

    def test_kinds_of_values(self):
        told = cheapest(lane_plant(), SEE, HOLD)
        self.assertEqual([type(thing) for thing in (told, *told)], [tuple, int, tuple, tuple, list])
        self.assertEqual(len(told), 4)
        for item in told[3]:
            self.assertEqual([type(thing) for thing in (item, *item)], [tuple] * 4)

    def test_no_pair_keeps(self):
        self.assertIsNone(cheapest(lane_plant(), {}, {}))
        self.assertIsNone(cheapest(lane_plant(), SEE, {}))
        self.assertIsNone(cheapest(lane_plant(), {}, {"end": 1, "hop": 1}))
        self.assertIsNone(cheapest(sample_plant(), {"go": 1, "up": 1}, {"up": 1}))

    def test_the_empty_pair_keeps(self):
        plant = Plant(0, [(0, "go", 1)], [0])
        for see, hold in (({}, {}), ({"go": 1}, {}), ({}, {"go": 1}), ({"go": 1}, {"go": 1})):
            self.assertEqual(cheapest(plant, see, hold), (0, (), (), []))

    def test_a_word_in_both_sets_counts_twice(self):
        plant = Plant(0, [(0, "go", 1), (1, "go", 2)], [0], [1])
        told = cheapest(plant, {"go": 3}, {"go": 4})
        self.assertEqual(told[:3], (7, ("go",), ("go",)))
        self.assertTrue(is_good_list(plant, {"go": 3}, {"go": 4}, 7, told[3]))

    def test_the_order_of_the_keys_has_no_meaning(self):
        for see in ({"go": 3, "hop": 3}, {"hop": 3, "go": 3}):
            for hold in ({"end": 5, "go": 1}, {"go": 1, "end": 5}):
                self.assertEqual(cheapest(lane_plant(), see, hold)[:3], (8, ("go",), ("end",)))

    def test_the_least_cost_goes_before_all_else(self):
        # Low must be held, and go or up.
        plant = Plant(0, [(0, "go", 1), (1, "up", 2), (0, "low", 2)], [], [1, 2])
        self.assertEqual(cheapest(plant, {}, {"go": 2, "up": 1, "low": 1})[:3],
                         (2, (), ("low", "up")))
        self.assertEqual(cheapest(plant, {}, {"go": 1, "up": 1, "low": 1})[:3],
                         (2, (), ("go", "low")))
        plant = Plant(0, [(0, "a", 1), (1, "b", 2), (2, "c", 3)], [], [2])
        self.assertEqual(cheapest(plant, {}, {"a": 5, "b": 4, "c": 4})[:3], (4, (), ("b",)))

    def test_fewest_words_of_those_with_the_least_cost(self):
        # Done by holding z, or by holding x and y: both cost 4.
        plant = Plant(0, [(0, "x", 1), (0, "y", 1), (1, "z", 2)], [], [2])
        self.assertEqual(cheapest(plant, {}, {"x": 2, "y": 2, "z": 4})[:3], (4, (), ("z",)))
        self.assertEqual(cheapest(plant, {}, {"x": 2, "y": 2, "z": 5})[:3], (4, (), ("x", "y")))

    def test_fewest_words_of_both_sets_together(self):
        # The wanted up is told from the barred one by seeing z, or b and d.
        steps = [(0, "z", 2), (0, "b", 3), (0, "d", 3), (2, "up", 9), (3, "up", 9)]
        plant = Plant(0, steps, [0, 1, 2, 3], [4])
        see = {"z": 4, "b": 2, "d": 2}
        self.assertEqual(cheapest(plant, see, {"up": 3})[:3], (7, ("z",), ("up",)))
        see = {"z": 5, "b": 2, "d": 2}
        self.assertEqual(cheapest(plant, see, {"up": 3})[:3], (7, ("b", "d"), ("up",)))

    def test_the_least_seen_before_the_least_held(self):
        # Of the words seen, either tells; of the words held, either does.
        steps = [(0, "c", 1), (0, "d", 2), (1, "a", 3), (2, "a", 3), (3, "b", 4), (2, "e", 4)]
        plant = Plant(0, steps, [0, 1, 2], [3])
        self.assertEqual(cheapest(plant, {"d": 1, "c": 1}, {"a": 1})[:3], (2, ("c",), ("a",)))
        steps = [(0, "c", 1), (1, "a", 2), (2, "b", 3)]
        plant = Plant(0, steps, [0], [2])
        self.assertEqual(cheapest(plant, {"c": 1}, {"b": 1, "a": 1})[:3], (1, (), ("a",)))
        self.assertEqual(cheapest(plant, {"a": 1}, {"b": 1, "c": 1})[:3], (1, (), ("b",)))

    def test_seen_and_held_words_of_one_cost(self):
        # Go may be done once: it is kept by seeing go and holding go, or by holding up or low too.
        steps = [(0, "go", 1), (1, "go", 2), (1, "up", 0), (2, "up", 3), (2, "low", 3)]
        plant = Plant(0, steps, [0, 2], [3, 4])
        see, hold = {"go": 1, "up": 1}, {"go": 1, "up": 1, "low": 1}
        self.assertEqual(cheapest(plant, see, hold)[:3], cheapest_by_words(plant, see, hold))

    def test_against_the_words_of_the_document(self):
        told = {"none": 0, "free": 0, "priced": 0}
        for source in cases(300, 70):
            plant = make_plant(source, 4, 9)
            see, hold = make_costs(source, plant)
            found = cheapest(plant, see, hold)
            self.assertEqual(found and found[:3], cheapest_by_words(plant, see, hold))
            if found is not None:
                self.assertTrue(is_good_list(plant, see, hold, found[0], found[3]))
                self.assertIs(is_against(plant, see, hold, found[0], found[3]), True)
                self.assertLessEqual(len(found[3]), 256)
            told["none" if found is None else "priced" if found[0] else "free"] += 1
        self.assertGreater(min(told.values()), 20)

    def test_at_most_256_items(self):
        # Only the dearest pair keeps: each of four words must be seen, and each of four held.
        words = ["a", "b", "c", "d"]
        steps = [(0, word, 1 + at) for at, word in enumerate(words)]
        steps += [(1 + at, word, 9) for at, word in enumerate(words)]
        plant = Plant(0, steps, [0, 1, 2, 3], [4, 5, 6, 7])
        costs = {word: 1 for word in words}
        cost, seen, held, against = cheapest(plant, costs, costs)
        self.assertEqual((cost, seen, held), (8, tuple(words), tuple(words)))
        self.assertLessEqual(len(against), 256)
        self.assertTrue(is_good_list(plant, costs, costs, 8, against))
        self.assertIs(is_against(plant, costs, costs, 8, against), True)
        self.assertIs(is_against(plant, costs, costs, 9, against), False)

    def test_too_many_standings_by_one_pair(self):
        plant = wide_plant(20)
        assert_too_many(self, 2000, lambda: cheapest(plant, {"go": 1}, {}))
        assert_too_many(self, 2000, lambda: cheapest(plant, {"go": 1}, {"hop": 1}))
        self.assertEqual(cheapest(plant, {}, {"hop": 1}), (0, (), (), []))
        self.assertEqual(cheapest(wide_plant(19), {"go": 1}, {}), (0, (), (), []))
        told = cheapest(wide_plant(19, [31]), {"go": 1}, {"hop": 1})
        self.assertEqual(told[:3], (1, (), ("hop",)))

    def test_is_against_has_no_limit(self):
        plant = wide_plant(20, [31])
        item = (("go",), (), ((31,), ((None,),)))
        self.assertIs(is_against(plant, {"go": 1}, {"hop": 2}, 2, [item]), True)
        self.assertIs(is_against(plant, {"go": 1}, {"hop": 2}, 3, [item]), False)


class IsAgainstTest(unittest.TestCase):
    def test_the_example_of_the_interface(self):
        self.assertIs(is_right(right_list()), True)

    def test_other_costs(self):
        for cost in (6, 5, 1, 0, -1, -(10 ** 6000)):
            self.assertIs(is_right(right_list(), cost), True)
        for cost in (8, 9, 10, 10 ** 6000):
            self.assertIs(is_right(right_list(), cost), False)

    def test_only_cheaper_pairs_need_an_item(self):
        first, second = right_list()
        # The pair of end alone costs 5, that of hop alone 2, that of go and hop 5.
        self.assertIs(is_right([second], 5), True)
        self.assertIs(is_right([second], 6), False)
        self.assertIs(is_right([first], 2), True)
        self.assertIs(is_right([first], 3), False)
        self.assertIs(is_right([], 1), False)
        for cost in (0, -1, -5):
            self.assertIs(is_right([], cost), True)

    def test_costs_that_are_no_integers(self):
        for cost in no_integers():
            self.assertIs(is_right(right_list(), cost), False)
            self.assertIs(is_right([], cost), False)

    def test_the_item_may_cost_any_amount(self):
        see = {"go": 10 ** 6, "hop": 10 ** 6}
        self.assertIs(is_right(right_list()[1:], 1, see), True)
        # No pair keeps, and an item for the whole sets stands for all pairs.
        item = (("go", "hop"), (), paper_of(["go", "hop"], []))
        self.assertIs(is_right([item], 10 ** 9, None, {}), True)
        self.assertIs(is_right([], 10 ** 9, None, {}), False)

    def test_both_sets_of_the_pair_must_be_within_the_item(self):
        items = [(("hop",), (), paper_of(["hop"], [])), (("go",), (), paper_of(["go"], [])),
                 ((), ("end",), paper_of([], ["end"]))]
        self.assertIs(is_right(items, 5), True)
        # The pair of go and hop costs 5, and no single item has both.
        self.assertIs(is_right(items, 6), False)
        self.assertIs(is_right(items + right_list()[1:], 6), True)
        see, hold = {"go": 1, "hop": 1}, {"end": 1, "hop": 1}
        items = [(("go", "hop"), ("hop",), paper_of(["go", "hop"], ["hop"])),
                 ((), ("end", "hop"), paper_of([], ["end", "hop"]))]
        self.assertIs(is_right(items, 2, see, hold), True)
        self.assertIs(is_right(items[:1], 2, see, hold), False)
        self.assertIs(is_right(items[1:], 2, see, hold), False)

    def test_the_order_and_further_items(self):
        self.assertIs(is_right(right_list()[::-1]), True)
        self.assertIs(is_right(right_list() * 3), True)
        more = [((), (), paper_of([], [])), (("go",), (), paper_of(["go"], []))]
        self.assertIs(is_right(more + right_list() + more), True)

    def test_each_item_must_be_right(self):
        good = (("go",), (), paper_of(["go"], []))
        self.assertIs(is_right(right_list() + [good]), True)
        seen, held, paper = good
        for item in ((seen, held), (seen, held, paper, ()), [seen, held, paper], (), None, "", 5,
                     (list(seen), held, paper), (seen, list(held), paper), (seen, None, paper),
                     (seen, held, list(paper)), (seen, held, None), (seen, held, ()), "abc",
                     ("go", held, paper), (("go", "go"), held, paper), (("hop", "go"), held, paper),
                     (("end",), held, paper), (("up",), held, paper), ((None,), held, paper),
                     (seen, ("go",), paper), (seen, ("end", "end"), paper), (held, seen, paper),
                     (seen, ("up",), paper), (seen, (5,), paper), (seen, held, paper[0]),
                     (seen, held, (list(paper[0]), paper[1])), (seen, held, (paper[1], paper[0]))):
            self.assertIs(is_right(right_list() + [item]), False, item)
            self.assertIs(is_right([item] + right_list()), False, item)
            self.assertIs(is_right([item], 0), False, item)

    def test_strictly_ascending_words(self):
        paper = ((1, 3), ((None,), (None,)))
        for seen, right in ((("go", "hop"), True), (("hop", "go"), False), (("go", "go"), False),
                            (("go", "hop", "hop"), False), ((), True)):
            self.assertIs(is_right([(seen, (), paper)], 0), right)
        hold = {"go": 1, "hop": 1}
        paper = ((1, 3), (((1,),), (None,)))
        for held, right in ((("go", "hop"), True), (("hop", "go"), False), (("hop",), True),
                            (("hop", "hop"), False)):
            self.assertIs(is_right([((), held, paper)], 0, None, hold), right)

    def test_the_paper_is_one_by_the_view_of_the_item(self):
        first, second = right_list()
        for item in (first[:2] + second[2:], second[:2] + first[2:],
                     (("go",), ("end",), first[2]), (("hop",), ("end",), first[2])):
            self.assertIs(is_right([item], 0), False)
        # Each word is seen as itself.
        plant = Plant(0, [(0, "go", 1), (0, "hop", 2), (1, "up", 0), (2, "up", 0)], [0, 1, 2], [3])
        paper = breach(plant, [View({"go": "go", "hop": "go"}, ["up"])])
        self.assertEqual(paper, ((1, 3), ((None,), ((0, 2),))))
        self.assertIs(is_against(plant, SEE, {"up": 1}, 0, [((), ("up",), paper)]), True)
        self.assertIs(is_against(plant, SEE, {"up": 1}, 0, [(("go", "hop"), ("up",), paper)]),
                      False)

    def test_the_last_step_of_the_run_is_barred(self):
        plant = lane_plant()
        for number, right in ((0, False), (1, False), (2, False), (3, True)):
            paper = forced(plant, [View()], number)
            self.assertIs(is_right([((), (), paper)], 0), right)
        self.assertIs(is_right([((), (), ((), ()))], 0), False)
        plant = Plant(0, [(0, "go", 0), (0, "up", 0), (0, "low", 0)], [0], [1])
        for run, right in (((1, 0), False), ((1, 2), False), ((1,), True), ((0, 1), True),
                           ((1, 1), True), ((2, 1), True)):
            item = ((), (), (run, ((None,),) * len(run)))
            self.assertIs(is_against(plant, {}, {}, 0, [item]), right)

    def test_tuples_and_other_things_in_place_of_the_list(self):
        for thing in (tuple(right_list()), (), {0: right_list()[0]}, iter(right_list()), None, "", 0):
            self.assertIs(is_right(thing), False)
            self.assertIs(is_right(thing, 0), False)

    def test_things_of_all_kinds(self):
        seen, held, paper = right_list()[0]
        for thing in all_things():
            if not (isinstance(thing, list) and len(thing) == 0):
                self.assertIs(is_right(thing, 0), False)
            for item in (thing, (seen, held, thing), (seen, (thing,), paper), (seen, thing, paper),
                         ((thing,), held, paper)):
                if not (isinstance(thing, str) and thing == "go"):
                    self.assertIs(is_right([item], 0), False)
            if not isinstance(thing, tuple) or len(thing) > 0:
                self.assertIs(is_right([(thing, held, paper)], 0), False)
            if isinstance(thing, bool) or not isinstance(thing, int):
                self.assertIs(is_right(right_list(), thing), False)

    def test_nested_deep(self):
        for thing in (DEEP_LIST, DEEP_TUPLE, [DEEP_TUPLE], [(DEEP_TUPLE,) * 3], looped_list(),
                      [((), (), DEEP_TUPLE)], [((), (), (DEEP_TUPLE, ()))]):
            self.assertIs(is_right(thing), False)
            self.assertIs(is_right(thing, DEEP_LIST), False)

    def test_against_the_words_of_the_document(self):
        told = {True: 0, False: 0}
        for source in cases(120, 71):
            plant = make_plant(source, 4, 9)
            see, hold = make_costs(source, plant)
            items = [(*pair, breach(plant, [seeing(*pair)])) for pair in all_pairs(see, hold)]
            items = some_of(source, [item for item in items if item[2] is not None])
            for cost in range(-1, 12):
                good = is_good_list(plant, see, hold, cost, items)
                self.assertIs(is_against(plant, see, hold, cost, items), good)
                told[good] += 1
        self.assertGreater(min(told.values()), 100)


class OwnershipTest(unittest.TestCase):
    def test_arguments_are_not_changed(self):
        plant, see, hold, items = lane_plant(), dict(SEE), dict(HOLD), right_list()
        cheapest(plant, see, hold)
        is_against(plant, see, hold, 7, items)
        self.assertEqual((plant, see, hold, items), (lane_plant(), SEE, HOLD, right_list()))

    def test_returned_lists_are_new(self):
        cheapest(lane_plant(), SEE, HOLD)[3].clear()
        self.assertIs(is_right(cheapest(lane_plant(), SEE, HOLD)[3]), True)


if __name__ == "__main__":
    unittest.main()
