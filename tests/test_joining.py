"""Points [25] to [27]: the smallest guard, & and |, within and apart."""

import unittest

from leastguards.errors import BadGuard
from leastguards.guards import Guard
from leastguards.plants import Plant
from leastguards.views import View
from tests.helper import (DEEP_LIST, assert_refused, assert_too_many, lane_guard, no_guards,
                          ring_guard, sample_guard, sample_view)
from tests.slow import (cases, held_after, let_runs_up_to, make_guard, make_plant, make_view,
                        rows_up_to)

VIEW = View({"go": "a", "up": "b", "low": "b"}, ["up", "halt"])
ALL = ["up", "halt"]


def sights_of_view(view):
    return sorted(set(view.sights.values()))


def future(guard, row, length):
    """What the guard holds after the row and after each short row behind it."""
    more = rows_up_to(sights_of_view(guard.view), length)
    return tuple(tuple(held_after(guard, row + rest)) for rest in more)


def least_size(guard, length):
    """The count of different futures, SHUT's left out; one at least."""
    rows = rows_up_to(sights_of_view(guard.view), length)
    futures = {future(guard, row, length) for row in rows}
    futures.discard(future(guard, ["zoo"], length))
    return max(1, len(futures))


def breadth_first(guard):
    """The nodes in the order in which the search of [25] meets them."""
    met = [0]
    for node in met:
        for sight in sights_of_view(guard.view):
            if guard.moves.get((node, sight), 0) not in met:
                met.append(guard.moves[(node, sight)])
    return met


def row_to(guard, node):
    """A shortest row to the node."""
    return next(row for row in rows_up_to(sights_of_view(guard.view), guard.size)
                if guard.node_after(row) == node)


def check_form(case, guard, length):
    """The guard has the form that [25] asks for; two nodes are told apart by rows of this length."""
    case.assertEqual(breadth_first(guard), list(range(guard.size)))
    shut = future(guard, ["zoo"], length)
    futures = [future(guard, row_to(guard, node), length) for node in range(guard.size)]
    case.assertEqual(len(set(futures)), guard.size)
    case.assertNotIn(shut, futures[1:])
    if futures[0] == shut:
        case.assertEqual((guard.size, guard.moves), (1, {}))


def check_held(case, guard, length, words_after):
    """After each short row the guard holds the words that words_after tells."""
    for row in rows_up_to(["a", "b", "zoo"], length):
        case.assertEqual(held_after(guard, row), sorted(words_after(row)))


class SmallestTest(unittest.TestCase):
    def test_the_least_guard_of_the_interface_is_small_already(self):
        self.assertEqual(sample_guard().smallest(), sample_guard())

    def test_nodes_that_hold_alike_become_one(self):
        moves = {(0, "a"): 1, (1, "a"): 2, (2, "a"): 0, (0, "b"): 2, (1, "b"): 0, (2, "b"): 1}
        guard = Guard(VIEW, moves, [["up"], ["up"], ["up"]])
        self.assertEqual(guard.smallest(), Guard(VIEW, {(0, "a"): 0, (0, "b"): 0}, [["up"]]))

    def test_nodes_that_hold_alike_only_for_a_while_stay(self):
        guard = Guard(VIEW, {(0, "a"): 1, (1, "a"): 2}, [[], [], []])
        self.assertEqual(guard.smallest(), guard)

    def test_nodes_that_are_never_reached_are_left_out(self):
        guard = Guard(VIEW, {(0, "a"): 2, (1, "a"): 0}, [["up"], ["halt"], []])
        self.assertEqual(guard.smallest(), Guard(VIEW, {(0, "a"): 1}, [["up"], []]))

    def test_nodes_like_shut_are_left_out(self):
        moves = {(0, "a"): 1, (0, "b"): 2, (1, "a"): 1, (1, "b"): 2, (2, "b"): 1}
        guard = Guard(VIEW, moves, [["up"], ALL, ALL])
        self.assertEqual(guard.smallest(), Guard(VIEW, {}, [["up"]]))

    def test_a_node_that_holds_all_words_for_a_while_is_not_like_shut(self):
        guard = Guard(VIEW, {(0, "a"): 1, (1, "b"): 2}, [[], ALL, ["up"]])
        self.assertEqual(guard.smallest(), guard)

    def test_node_0_may_be_like_shut(self):
        guard = Guard(VIEW, {(0, "a"): 1, (1, "a"): 0, (1, "b"): 1}, [ALL, ALL])
        self.assertEqual(guard.smallest(), Guard(VIEW, {}, [ALL]))
        self.assertEqual(Guard(VIEW, {(0, "b"): 0}, [ALL]).smallest(), Guard(VIEW, {}, [ALL]))

    def test_a_view_that_can_hold_nothing(self):
        view = View({"go": "a"})
        guard = Guard(view, {(0, "a"): 1, (1, "a"): 0}, [[], []])
        self.assertEqual(guard.smallest(), Guard(view, {}, [[]]))

    def test_a_view_that_sees_nothing(self):
        view = View({}, ["up"])
        self.assertEqual(Guard(view, {}, [[], ["up"]]).smallest(), Guard(view, {}, [[]]))

    def test_nodes_are_numbered_breadth_first(self):
        moves = {(0, "b"): 1, (0, "a"): 3, (3, "b"): 2, (1, "a"): 4}
        guard = Guard(VIEW, moves, [[], ["up"], ["halt"], [], []])
        least = guard.smallest()
        self.assertEqual(least.moves, {(0, "a"): 1, (0, "b"): 2, (1, "b"): 3, (2, "a"): 4})
        self.assertEqual(least.held, [(), (), ("up",), ("halt",), ()])

    def test_a_new_guard_is_told_and_the_old_one_stays(self):
        guard = sample_guard()
        least = guard.smallest()
        self.assertIsNot(least, guard)
        self.assertIs(type(least), Guard)
        big = ring_guard(200)
        self.assertEqual(big.smallest(), big)
        self.assertEqual(big, ring_guard(200))

    def test_long_lanes(self):
        lane = lane_guard(200)
        self.assertEqual(lane.smallest(), lane)
        self.assertEqual(Guard(lane.view, lane.moves, [["up"]] * 200).smallest().size, 1)
        held = [[]] * 199 + [["up"]]
        self.assertEqual(Guard(lane.view, lane.moves, held).smallest(), lane_guard(199))

    def test_against_the_slow_search(self):
        for source in cases(150, 4):
            guard = make_guard(source, make_view(source))
            least = guard.smallest()
            self.assertEqual(least.view, guard.view)
            check_held(self, least, 4, lambda row: held_after(guard, row))
            self.assertEqual(least.size, least_size(guard, 4))
            check_form(self, least, 4)
            self.assertEqual(least.smallest(), least)


class AndOrTest(unittest.TestCase):
    def test_words_that_one_or_both_hold(self):
        one = Guard(VIEW, {(0, "a"): 1, (1, "b"): 0}, [["up"], []])
        other = Guard(VIEW, {(0, "a"): 0, (0, "b"): 0}, [["halt"]])
        self.assertEqual(one & other, Guard(VIEW, {(0, "a"): 1, (1, "b"): 0}, [ALL, ["halt"]]))
        # Behind SHUT of one all of its words are held, so there the other one decides.
        self.assertEqual(one | other, Guard(VIEW, {(0, "a"): 1, (0, "b"): 2, (1, "a"): 2,
                                                   (1, "b"): 0, (2, "a"): 2, (2, "b"): 2},
                                            [[], [], ["halt"]]))

    def test_a_guard_with_itself(self):
        guard = sample_guard()
        for joined in (guard & guard, guard | guard):
            self.assertEqual(joined, guard.smallest())
            self.assertIsNot(joined, guard)

    def test_guards_that_always_hold_all(self):
        shut = Guard(VIEW, {}, [ALL])
        open_guard = Guard(VIEW, {(0, "a"): 0, (0, "b"): 0}, [[]])
        self.assertEqual(shut & open_guard, shut)
        self.assertEqual(open_guard & shut, shut)
        self.assertEqual(shut | open_guard, open_guard)
        self.assertEqual(open_guard | shut, open_guard)
        self.assertEqual(shut | shut, shut)

    def test_the_result_is_the_smallest_one(self):
        one, other = ring_guard(2), ring_guard(2)
        wide = Guard(one.view, {(0, "go"): 1, (1, "go"): 2, (2, "go"): 3, (3, "go"): 0},
                     [[], ["up"], [], ["up"]])
        self.assertEqual(wide & other, one)
        self.assertEqual(wide | other, one)

    def test_200_pairs_of_two_nodes_and_one_more(self):
        for one, other in ((8, 25), (1, 200), (200, 200)):
            joined = ring_guard(one) & ring_guard(other)
            self.assertEqual(joined.size, 200 if one != 1 else 1)
        for one, other in ((3, 67), (67, 3), (199, 200)):
            assert_too_many(self, 200, lambda: ring_guard(one) & ring_guard(other))
            assert_too_many(self, 200, lambda: ring_guard(one) | ring_guard(other))
        self.assertEqual((ring_guard(8) | ring_guard(25)).size, 200)
        self.assertEqual((ring_guard(200) | ring_guard(200)), ring_guard(200))

    def test_pairs_are_counted_also_where_the_result_is_small(self):
        view = View({"go": "go"}, ["up"])
        rings = [Guard(view, {(node, "go"): (node + 1) % size for node in range(size)}, [[]] * size)
                 for size in (3, 67)]
        assert_too_many(self, 200, lambda: rings[0] & rings[1])
        assert_too_many(self, 200, lambda: rings[0] | rings[1])

    def test_pairs_with_one_shut_count_in_or_only(self):
        # The lanes meet at node 0 alone; from there each sight leads one of them to SHUT.
        for one, other in ((101, 100), (1, 200), (100, 101)):
            lanes = lane_guard(one, "go"), lane_guard(other, "hop")
            # The last nodes of both lanes hold alike.
            self.assertEqual((lanes[0] | lanes[1]).size, 199 if one > 1 else 200)
            self.assertEqual((lanes[0] & lanes[1]).size, 1)
        for one, other in ((101, 101), (200, 2), (2, 200), (200, 200)):
            lanes = lane_guard(one, "go"), lane_guard(other, "hop")
            assert_too_many(self, 200, lambda: lanes[0] | lanes[1])
            self.assertEqual((lanes[0] & lanes[1]).size, 1)

    def test_pairs_with_shut_on_either_side(self):
        # After two steps the lane is at SHUT, and the ring goes on to 200 nodes.
        ring, lane = ring_guard(200), lane_guard(2)
        for one, other in ((ring, lane), (lane, ring)):
            self.assertEqual(one & other, lane)
            assert_too_many(self, 200, lambda: one | other)

    def test_shut_twice_does_not_count(self):
        self.assertEqual((lane_guard(200) | lane_guard(200)).size, 200)
        self.assertEqual((lane_guard(200) | lane_guard(150)).size, 200)
        self.assertEqual((lane_guard(200) & lane_guard(150)).size, 150)

    def test_pairs_that_no_row_leads_to_do_not_count(self):
        lane = lane_guard(200)
        other = Guard(lane.view, {}, [[]] * 200)
        self.assertEqual((lane & other).size, 1)
        self.assertEqual((lane | other).size, 200)

    def test_in_place_names_are_bound_to_new_guards(self):
        one, other = ring_guard(2), ring_guard(3)
        both = either = one
        both &= other
        either |= other
        self.assertEqual(both, one & other)
        self.assertEqual(either, one | other)
        self.assertIsNot(both, one)
        self.assertIsNot(either, one)
        self.assertEqual((one, other), (ring_guard(2), ring_guard(3)))

    def test_in_place_with_itself(self):
        guard = first = ring_guard(2)
        guard &= guard
        self.assertIsNot(guard, first)
        self.assertEqual(guard, first)

    def test_an_error_binds_nothing_and_changes_no_guard(self):
        guard = first = ring_guard(3)
        with self.assertRaises(BadGuard):
            guard &= DEEP_LIST
        with self.assertRaises(BadGuard):
            guard |= sample_guard()
        self.assertIs(guard, first)
        assert_too_many(self, 200, lambda: guard & ring_guard(67))
        self.assertEqual(guard, ring_guard(3))

    def test_against_the_slow_search(self):
        for source in cases(150, 5):
            view = make_view(source)
            one, other = make_guard(source, view, 3), make_guard(source, view, 3)
            both, either = one & other, one | other
            check_held(self, both, 4, lambda row: set(held_after(one, row) + held_after(other, row)))
            check_held(self, either, 4,
                       lambda row: set(held_after(one, row)) & set(held_after(other, row)))
            for joined in (both, either):
                self.assertEqual(joined.view, view)
                self.assertEqual(joined.smallest(), joined)
                self.assertEqual(joined.size, least_size(joined, 5))

    def test_the_runs_that_are_let(self):
        for source in cases(60, 6):
            plant, view = make_plant(source), make_view(source)
            one, other = make_guard(source, view, 3), make_guard(source, view, 3)
            let_by_one = let_runs_up_to(plant, [one], 4)
            let_by_other = let_runs_up_to(plant, [other], 4)
            let_by_both = [run for run in let_by_one if run in let_by_other]
            self.assertEqual(let_runs_up_to(plant, [one & other], 4), let_by_both)
            wide = let_runs_up_to(plant, [one | other], 4)
            self.assertEqual([run for run in let_by_one + let_by_other if run not in wide], [])


class RefusedOthersTest(unittest.TestCase):
    def check_refused(self, guard, other):
        for call in (lambda: guard & other, lambda: guard | other,
                     lambda: guard.within(other), lambda: guard.apart(other)):
            assert_refused(self, BadGuard, "value", other, call)

    def test_other_kinds(self):
        guard = sample_guard()
        for thing in no_guards():
            if isinstance(thing, View):
                continue
            self.check_refused(guard, thing)
        for call in (guard.within, guard.apart):
            view = sample_view()
            assert_refused(self, BadGuard, "value", view, lambda: call(view))
        self.check_refused(guard, Plant(0, [(0, "go", 0)], []))
        self.assertEqual(guard, sample_guard())

    def test_views_that_are_not_equal(self):
        guard = sample_guard()
        for view in (View({"go": "g"}, ["up"]), View({"go": "g", "up": "u"}, ["up", "low"]),
                     View({"go": "g", "up": "g"}, ["up"]), View({"go": "g", "up": "u"}), View()):
            self.check_refused(guard, Guard(view, {}, [[]]))
            self.check_refused(Guard(view, {}, [[]]), guard)

    def test_the_view_is_checked_before_the_pairs_are_counted(self):
        other = ring_guard(67, words=("go",))
        self.check_refused(ring_guard(3), other)

    def test_equal_views_that_are_not_the_same_object(self):
        view = View({"up": "u", "go": "g"}, ("up", "up"))
        self.assertIs(Guard(view, {}, [["up"]]).within(sample_guard()), True)


class WithinApartTest(unittest.TestCase):
    def test_the_examples_of_the_interface(self):
        view, guard = sample_view(), sample_guard()
        self.assertEqual(Guard(view, {}, [[]]).apart(guard), [])
        self.assertIs(Guard(view, {(0, "g"): 0}, [[]]).within(guard), False)

    def test_a_guard_with_itself(self):
        for guard in (sample_guard(), ring_guard(200), lane_guard(200)):
            self.assertIs(guard.within(guard), True)
            self.assertIsNone(guard.apart(guard))
            self.assertIsNone(guard.apart(guard.smallest()))

    def test_holding_more(self):
        wide = Guard(VIEW, {(0, "a"): 0, (0, "b"): 0}, [["halt"]])
        narrow = Guard(VIEW, {(0, "a"): 0}, [["halt"]])
        self.assertIs(narrow.within(wide), True)
        self.assertIs(wide.within(narrow), False)
        self.assertEqual(narrow.apart(wide), ["b"])
        self.assertEqual(wide.apart(narrow), ["b"])

    def test_neither_holds_more(self):
        one, other = Guard(VIEW, {}, [["halt"]]), Guard(VIEW, {}, [["up"]])
        self.assertIs(one.within(other), False)
        self.assertIs(other.within(one), False)
        self.assertEqual(one.apart(other), [])

    def test_shut_on_one_side_only(self):
        one = Guard(VIEW, {(0, "a"): 1, (1, "b"): 1}, [ALL, ALL])
        other = Guard(VIEW, {}, [ALL])
        self.assertIsNone(one.apart(other))
        self.assertIsNone(other.apart(one))
        self.assertIs(one.within(other), True)
        late = Guard(VIEW, {(0, "a"): 1, (1, "b"): 2}, [ALL, ALL, ["up"]])
        self.assertEqual(other.apart(late), ["a", "b"])
        self.assertIs(late.within(other), False)
        self.assertIs(other.within(late), True)

    def test_the_least_of_several_shortest_rows(self):
        one = Guard(VIEW, {(0, "b"): 1, (0, "a"): 2, (1, "a"): 0, (2, "b"): 0}, [["up"], [], []])
        other = Guard(VIEW, {(0, "b"): 1, (0, "a"): 2, (1, "a"): 3, (2, "b"): 3},
                      [["up"], [], [], []])
        self.assertEqual(one.apart(other), ["a", "b"])

    def test_long_rows(self):
        one, other = ring_guard(200), ring_guard(199)
        self.assertEqual(one.apart(other), ["go"] * 198)
        self.assertEqual(lane_guard(200).apart(lane_guard(199)), ["go"] * 199)
        # Up to 39800 pairs are met; no limit is promised here.
        flat = Guard(one.view, other.moves, [[]] * 199)
        self.assertIs(one.within(flat), True)
        self.assertEqual(flat.apart(one), ["go"] * 199)

    def test_a_told_row_is_new(self):
        one, other = ring_guard(3), ring_guard(2)
        self.assertIs(type(one.apart(other)), list)
        one.apart(other).clear()
        self.assertEqual(one.apart(other), ["go"])
        self.assertEqual((one, other), (ring_guard(3), ring_guard(2)))

    def test_against_the_slow_search(self):
        for source in cases(200, 7):
            view = make_view(source)
            one, other = make_guard(source, view, 3), make_guard(source, view, 3)
            rows = rows_up_to(sights_of_view(view), 6)
            differ = [row for row in rows if held_after(one, row) != held_after(other, row)]
            self.assertEqual(one.apart(other), differ[0] if differ else None)
            less = [row for row in rows
                    if not set(held_after(one, row)) >= set(held_after(other, row))]
            self.assertIs(one.within(other), not less)


if __name__ == "__main__":
    unittest.main()
