"""Points [2] to [6] and [21] to [24]: guards, their checks, calls, properties and ==."""

import copy
import unittest

from leastguards.errors import BadGuard, BadSights
from leastguards.guards import Guard
from leastguards.plants import Plant
from leastguards.views import View
from tests.helper import (DEEP_DICT, DEEP_LIST, DEEP_TUPLE, KEY_DEPTH, all_things, assert_refused,
                          assert_refused_at, deep_tuple, no_dicts, no_guards, no_integers, no_names,
                          no_rows, sample_guard, sample_view)
from tests.slow import cases, held_after, make_guard, make_view, rows_up_to

VIEW = View({"go": "g", "up": "u", "low": "g"}, ["up", "halt", "aa"])


def hashable(things):
    """Those of the things that can be keys; deep tuples are left out, as their hash is computed."""
    found = []
    for thing in things:
        if isinstance(thing, tuple) and thing and isinstance(thing[0], (list, tuple)):
            continue
        try:
            hash(thing)
        except TypeError:
            continue
        found.append(thing)
    return found


class ViewTest(unittest.TestCase):
    def test_a_view_is_asked_for(self):
        for thing in all_things():
            if isinstance(thing, View):
                continue
            assert_refused(self, BadGuard, "value", thing, lambda: Guard(thing, {}, [[]]))

    def test_the_view_is_checked_first(self):
        assert_refused(self, BadGuard, "value", "view", lambda: Guard("view", None, None))

    def test_arguments_by_name(self):
        guard = Guard(held=[["up"], []], view=sample_view(),
                      moves={(0, "g"): 1, (1, "g"): 1, (1, "u"): 0})
        self.assertEqual(guard, sample_guard())


class HeldTest(unittest.TestCase):
    def test_held_that_is_no_row(self):
        for thing in no_rows():
            assert_refused(self, BadGuard, "value", thing, lambda: Guard(VIEW, {}, thing))

    def test_no_items(self):
        for thing in ([], ()):
            assert_refused(self, BadGuard, "value", thing, lambda: Guard(VIEW, {}, thing))

    def test_one_item_200_items_and_one_more(self):
        self.assertEqual(Guard(VIEW, {}, ((),)).held, [()])
        self.assertEqual(Guard(VIEW, {}, [["up"]] * 200).held, [("up",)] * 200)
        for thing in ([[]] * 201, ((),) * 201, [None] * 201):
            assert_refused(self, BadGuard, "value", thing, lambda: Guard(VIEW, None, thing))

    def test_items_that_are_no_rows(self):
        for thing in no_rows():
            for held in ([thing], [[], thing, None], (("up",), thing)):
                assert_refused(self, BadGuard, "value", thing, lambda: Guard(VIEW, None, held))

    def test_words_that_are_no_names(self):
        for thing in no_names():
            for item in ([thing], ("up", thing), ["up", thing, None]):
                assert_refused(self, BadGuard, "value", item, lambda: Guard(VIEW, {}, [[], item]))

    def test_words_that_the_view_cannot_hold(self):
        for word in ("go", "low", "u", "zoo"):
            for item in ([word], ("up", word), ["halt", word, "aa"]):
                assert_refused(self, BadGuard, "value", item, lambda: Guard(VIEW, {}, [[], item]))
        item = ["up"]
        assert_refused(self, BadGuard, "value", item, lambda: Guard(View(), {}, [item]))

    def test_the_first_wrong_item_is_reported(self):
        first, second = ["go"], ["go"]
        assert_refused(self, BadGuard, "value", first, lambda: Guard(VIEW, {}, [first, second]))
        assert_refused(self, BadGuard, "value", first, lambda: Guard(VIEW, {}, [[], first, None]))
        assert_refused(self, BadGuard, "value", None, lambda: Guard(VIEW, {}, [[], None, first]))

    def test_a_word_that_stands_twice_counts_once(self):
        guard = Guard(VIEW, {}, [["up", "aa", "up"], ("halt", "halt")])
        self.assertEqual(guard.held, [("aa", "up"), ("halt",)])
        self.assertEqual(guard([]), ["aa", "up"])

    def test_held_is_checked_before_moves(self):
        item = ["go"]
        assert_refused(self, BadGuard, "value", item, lambda: Guard(VIEW, {0: 0}, [item]))
        assert_refused(self, BadGuard, "value", None, lambda: Guard(VIEW, {0: 0}, None))


class MovesTest(unittest.TestCase):
    def check_key(self, key):
        assert_refused(self, BadGuard, "value", key, lambda: Guard(VIEW, {key: 0}, [[], []]))
        moves = {(1, "u"): 0, key: None, (9, "g"): 0}
        assert_refused(self, BadGuard, "value", key, lambda: Guard(VIEW, moves, [[], []]))

    def test_moves_that_are_no_dict(self):
        for thing in no_dicts() + [[((0, "g"), 0)], (), []]:
            assert_refused(self, BadGuard, "value", thing, lambda: Guard(VIEW, thing, [[]]))

    def test_keys_of_other_kinds(self):
        for key in hashable(all_things()) + [(0,), (0, "g", 0), ("g", 0), "g", (0, 0), ((0, "g"),)]:
            self.check_key(key)
        self.check_key(deep_tuple(KEY_DEPTH))
        self.check_key((deep_tuple(KEY_DEPTH), "g"))
        self.check_key((0, deep_tuple(KEY_DEPTH)))

    def test_nodes_of_keys(self):
        for node in hashable(no_integers()) + [-1, 2, 3, 10 ** 6000, -2]:
            self.check_key((node, "g"))
        self.assertEqual(Guard(VIEW, {(1, "g"): 1}, [[], []]).moves, {(1, "g"): 1})

    def test_true_and_false_are_no_nodes(self):
        for thing in (True, False):
            self.check_key((thing, "g"))
            assert_refused(self, BadGuard, "value", thing,
                           lambda: Guard(VIEW, {(0, "g"): thing}, [[], []]))

    def test_sights_of_keys(self):
        for sight in hashable(no_names()) + ["go", "up", "low", "halt", "zoo"]:
            self.check_key((0, sight))
        key = (0, "up")
        assert_refused(self, BadGuard, "value", key,
                       lambda: Guard(View({}, ["up"]), {key: 0}, [[]]))

    def test_values(self):
        for thing in [-1, 2, 10 ** 6000] + no_integers():
            for moves in ({(0, "g"): thing}, {(1, "g"): 1, (0, "u"): thing, (1, "u"): None}):
                assert_refused(self, BadGuard, "value", thing, lambda: Guard(VIEW, moves, [[], []]))
        self.assertEqual(Guard(VIEW, {(0, "g"): 1}, [[], []]).moves, {(0, "g"): 1})

    def test_the_key_is_checked_before_its_value(self):
        key = (5, "g")
        assert_refused(self, BadGuard, "value", key, lambda: Guard(VIEW, {key: 5}, [[]]))

    def test_the_first_wrong_entry_is_reported(self):
        bad, worse = (7, "g"), (8, "g")
        moves = {(0, "u"): 0, (0, "g"): DEEP_DICT, bad: 0}
        assert_refused(self, BadGuard, "value", DEEP_DICT, lambda: Guard(VIEW, moves, [[]]))
        moves = {(0, "u"): 0, worse: 0, (0, "g"): None, bad: 0}
        assert_refused(self, BadGuard, "value", worse, lambda: Guard(VIEW, moves, [[]]))

    def test_moves_may_be_empty_and_lead_anywhere(self):
        self.assertEqual(Guard(VIEW, {}, [[], []]).moves, {})
        moves = {(node, sight): 199 - node for node in range(200) for sight in ("g", "u")}
        self.assertEqual(Guard(VIEW, moves, [[]] * 200).moves, moves)


class CallTest(unittest.TestCase):
    def test_the_examples_of_the_interface(self):
        guard = sample_guard()
        self.assertEqual(guard(["g", "u"]), ["up"])
        self.assertIsNone(guard.node_after(["u"]))

    def test_the_empty_row(self):
        for row in ([], ()):
            self.assertEqual(sample_guard()(row), ["up"])
            self.assertEqual(sample_guard().node_after(row), 0)

    def test_nodes_and_held_words(self):
        guard = sample_guard()
        for row, node in (([], 0), (["g"], 1), (("g", "g"), 1), (["g", "u"], 0),
                          (["g", "u", "g"], 1)):
            self.assertEqual(guard.node_after(row), node)
            self.assertEqual(guard(row), list(guard.held[node]))

    def test_behind_shut_all_words_are_held(self):
        guard = Guard(VIEW, {(0, "g"): 0}, [[]])
        for row in (["u"], ["g", "u"], ["u", "g"], ["u", "g", "g"], ["u", "u"]):
            self.assertIsNone(guard.node_after(row))
            self.assertEqual(guard(row), ["aa", "halt", "up"])

    def test_a_name_that_the_view_gives_to_no_word_leads_to_shut(self):
        for name in ("go", "up", "zoo", "halt"):
            self.assertIsNone(sample_guard().node_after([name]))
            self.assertIsNone(sample_guard().node_after(["g", name, "g"]))
            self.assertEqual(sample_guard()(["g", name]), ["up"])

    def test_sights_that_are_no_row(self):
        guard = sample_guard()
        for thing in no_rows():
            assert_refused_at(self, BadSights, -1, lambda: guard(thing))
            assert_refused_at(self, BadSights, -1, lambda: guard.node_after(thing))

    def test_items_that_are_no_names(self):
        guard = sample_guard()
        for call in (guard, guard.node_after):
            for thing in no_names():
                assert_refused_at(self, BadSights, 0, lambda: call([thing]))
                assert_refused_at(self, BadSights, 1, lambda: call(("g", thing, None)))

    def test_names_are_checked_behind_shut(self):
        guard = sample_guard()
        for call in (guard, guard.node_after):
            for row, at in ((["u", "u", 5], 2), (["zoo", "g", "g", ""], 3), (["u", DEEP_LIST], 1)):
                assert_refused_at(self, BadSights, at, lambda: call(row))

    def test_an_error_does_not_change_the_guard(self):
        guard = sample_guard()
        for row in (None, [None], ["g", 5], DEEP_LIST, DEEP_TUPLE):
            with self.assertRaises(BadSights):
                guard(row)
            with self.assertRaises(BadSights):
                guard.node_after(row)
        self.assertEqual(guard, sample_guard())
        self.assertEqual(guard.node_after([]), 0)

    def test_against_the_slow_search(self):
        for source in cases(60, 3):
            guard = make_guard(source, make_view(source))
            for row in rows_up_to(["a", "b", "c"], 4):
                self.assertEqual(guard(row), held_after(guard, row))


class PropertiesTest(unittest.TestCase):
    def test_the_properties(self):
        guard = sample_guard()
        self.assertEqual(guard.view, sample_view())
        self.assertEqual(guard.size, 2)
        self.assertEqual(guard.moves, {(0, "g"): 1, (1, "g"): 1, (1, "u"): 0})
        self.assertEqual(guard.held, [("up",), ()])

    def test_keys_are_in_ascending_order(self):
        moves = {(10, "u"): 0, (2, "u"): 1, (10, "g"): 2, (0, "u"): 3, (2, "g"): 4}
        guard = Guard(VIEW, moves, [[]] * 11)
        self.assertEqual(list(guard.moves), [(0, "u"), (2, "g"), (2, "u"), (10, "g"), (10, "u")])
        self.assertEqual(guard.moves, moves)

    def test_kinds_of_the_properties(self):
        guard = Guard(VIEW, {(0, "g"): 0}, (["up"], ("up", "aa")))
        self.assertIs(type(guard.view), View)
        self.assertIs(type(guard.size), int)
        self.assertIs(type(guard.moves), dict)
        self.assertIs(type(guard.held), list)
        for item in guard.held:
            self.assertIs(type(item), tuple)
        self.assertIs(type(guard([])), list)
        self.assertIs(type(guard(["zoo"])), list)

    def test_sizes(self):
        for size in (1, 2, 199, 200):
            self.assertEqual(Guard(VIEW, {}, [[]] * size).size, size)


class OwnershipTest(unittest.TestCase):
    def test_told_objects_are_new(self):
        guard = sample_guard()
        for name in ("view", "moves", "held"):
            self.assertIsNot(getattr(guard, name), getattr(guard, name))
        guard.moves.clear()
        guard.held.clear()
        guard.held.append(("up",))
        guard.view["go"] = "u"
        guard.view.holds = []
        guard([]).clear()
        guard(["zoo"]).clear()
        self.assertEqual(guard, sample_guard())
        self.assertEqual((guard([]), guard(["zoo"])), (["up"], ["up"]))

    def test_the_guard_keeps_a_copy_of_the_view(self):
        view = View({"go": "g", "up": "u"}, ["up"])
        guard = Guard(view, {(0, "g"): 1, (1, "g"): 1, (1, "u"): 0}, [["up"], []])
        view["go"] = "x"
        view["low"] = "u"
        view.holds = ["low", "go"]
        view -= ["up"]
        view |= {"aa": "a"}
        self.assertEqual(guard, sample_guard())
        self.assertEqual(guard.view, sample_view())
        self.assertEqual(guard(["zoo"]), ["up"])
        self.assertEqual(guard.node_after(["g", "u"]), 0)

    def test_later_changes_of_the_arguments(self):
        moves, words = {(0, "g"): 1, (1, "g"): 1, (1, "u"): 0}, ["up"]
        held = [words, []]
        guard = Guard(sample_view(), moves, held)
        moves[(0, "u")] = 0
        del moves[(0, "g")]
        words.clear()
        held[1].append("up")
        held.append([])
        self.assertEqual(guard, sample_guard())
        self.assertEqual(guard.held, [("up",), ()])

    def test_arguments_are_not_changed(self):
        view, row = VIEW.copy(), ["g", "u", "zoo"]
        moves, held = {(1, "u"): 0, (0, "g"): 1}, [["up", "aa", "up"], ("halt",)]
        before = copy.deepcopy((list(moves.items()), held, row))
        guard = Guard(view, moves, held)
        guard(row)
        guard.node_after(row)
        self.assertEqual((list(moves.items()), held, row), before)
        self.assertEqual(view, VIEW)

    def test_refused_arguments_are_not_changed(self):
        moves, held = {(1, "u"): 0, (0, "g"): None}, [["up", "aa", "up"], ["go"]]
        with self.assertRaises(BadGuard):
            Guard(VIEW, moves, held)
        with self.assertRaises(BadGuard):
            Guard(VIEW, moves, held[:1])
        self.assertEqual(list(moves.items()), [((1, "u"), 0), ((0, "g"), None)])
        self.assertEqual(held, [["up", "aa", "up"], ["go"]])


class EqualityTest(unittest.TestCase):
    def test_equal_guards(self):
        one = sample_guard()
        other = Guard(View({"up": "u", "go": "g"}, ("up", "up")),
                      {(1, "u"): 0, (1, "g"): 1, (0, "g"): 1}, (("up", "up"), ()))
        self.assertIs(one == other, True)
        self.assertIs(one != other, False)

    def test_each_part_counts(self):
        moves, held = {(0, "g"): 1}, [["up"], []]
        guard = Guard(VIEW, moves, held)
        others = [Guard(View(VIEW.sights, ["up"]), moves, held),
                  Guard(View({"go": "g"}, VIEW.holds), moves, held),
                  Guard(VIEW, {}, held), Guard(VIEW, {(0, "g"): 0}, held),
                  Guard(VIEW, {(0, "u"): 1}, held), Guard(VIEW, {(0, "g"): 1, (1, "g"): 1}, held),
                  Guard(VIEW, moves, [[], ["up"]]), Guard(VIEW, moves, [["up"], [], []]),
                  Guard(VIEW, moves, [["up"], ["aa"]])]
        for other in others:
            self.assertIs(guard == other, False)
            self.assertIs(other == guard, False)
            self.assertIs(guard != other, True)

    def test_guards_that_hold_alike_need_not_be_equal(self):
        self.assertIs(Guard(VIEW, {}, [[]]) == Guard(VIEW, {}, [[], []]), False)

    def test_any_other_object_is_not_equal(self):
        guard = sample_guard()
        for thing in no_guards() + [guard.held, guard.moves, guard.view]:
            self.assertIs(guard == thing, False)
            self.assertIs(guard != thing, True)
            self.assertIs(thing == guard, False)
        self.assertIs(guard == Plant(0, [(0, "go", 0)], []), False)

    def test_an_object_that_calls_itself_equal_to_all_is_not_equal(self):
        class Friend:
            def __eq__(self, other):
                return True

        self.assertIs(sample_guard() == Friend(), False)

    def test_guards_have_no_order(self):
        for compare in (lambda a, b: a < b, lambda a, b: a <= b,
                        lambda a, b: a > b, lambda a, b: a >= b):
            with self.assertRaises(TypeError):
                compare(sample_guard(), sample_guard())


if __name__ == "__main__":
    unittest.main()
