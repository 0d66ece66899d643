"""Points [42] and [43]: entries that can be let."""

import unittest

from leastguards.errors import BadEntry, BadGuard, NotKept
from leastguards.forced import keepable
from leastguards.guards import Guard, least_guard
from leastguards.letting import shortest_let
from leastguards.plants import Plant
from leastguards.views import View, seeing
from leastguards.widen import entry_run, spare, widest
from tests.helper import (DEEP_LIST, DEEP_TUPLE, assert_refused, assert_too_many, caught,
                          lane_guard, no_guards, no_integers, no_names, sample_guard, sample_plant,
                          sample_view, sight_cycles, wide_plant)
from tests.slow import cases, let_runs_up_to, make_guard, make_plant, make_view

LENGTH = 6


def lane_plant():
    """The plant lane of the examples in the document's interface."""
    return Plant(0, [(0, "go", 1), (0, "hop", 2), (1, "end", 3), (2, "end", 3)], [0, 1, 2], [3])


def eye():
    """The view of the examples for widest in the document's interface."""
    return seeing(["go"], ["end", "hop"])


def entries_of(guard):
    return [(node, word) for node, words in enumerate(guard.held) for word in words]


def letting(guard, entries):
    """The guard that holds all that this one holds but these entries."""
    held = [[word for word in words if (node, word) not in entries]
            for node, words in enumerate(guard.held)]
    return Guard(guard.view, guard.moves, held)


def is_safe(plant, guard):
    """True if no let run contains a barred step."""
    return all(shortest_let(plant, [guard], number) is None for number in plant.barred)


def widest_by_words(plant, view):
    """What widest returns, by the words of the document."""
    guard, let = least_guard(plant, view), []
    for entry in entries_of(guard):
        if is_safe(plant, letting(guard, let + [entry])):
            let.append(entry)
    return letting(guard, let)


def kept_cases(many, seed):
    """Plants and views, of which the least guards are safe and hold something."""
    found = []
    for source in cases(many, seed):
        plant, view = make_plant(source, 4, 9), make_view(source)
        if keepable(plant, [view]) and entries_of(least_guard(plant, view)):
            found.append((source, plant, view))
    return found


class SpareTest(unittest.TestCase):
    def test_the_example_of_the_interface(self):
        self.assertEqual(spare(lane_plant(), eye()), [(1, "hop")])

    def test_kinds_of_values(self):
        found = spare(lane_plant(), eye())
        self.assertIs(type(found), list)
        self.assertIs(type(found[0]), tuple)

    def test_nothing_is_held(self):
        self.assertEqual(spare(Plant(0, [(0, "go", 1)], [0]), View()), [])
        self.assertEqual(spare(Plant(0, [(0, "go", 1)], [0]), View({}, ["go"])), [])

    def test_nothing_is_barred(self):
        plant = Plant(0, [(0, "go", 1), (1, "up", 0)], [0])
        self.assertEqual(spare(plant, seeing(["go"], ["up", "go"])),
                         [(0, "up"), (1, "go"), (1, "up")])

    def test_words_that_the_plant_does_not_have(self):
        plant = Plant(0, [(0, "go", 1), (1, "up", 0)], [0], [1])
        self.assertEqual(spare(plant, seeing(["go"], ["up", "halt", "stop"])),
                         [(0, "halt"), (0, "stop"), (0, "up"), (1, "halt"), (1, "stop")])

    def test_entries_that_cannot_be_let_together(self):
        # Up leads from 0 to 1 and low from 1 to 2, where the barred step cannot be held.
        plant = Plant(0, [(0, "up", 1), (1, "low", 2), (2, "go", 0)], [], [2])
        view = View({}, ["low", "up"])
        self.assertEqual(spare(plant, view), [(0, "low"), (0, "up")])
        self.assertEqual(widest(plant, view).held, [("up",)])

    def test_a_let_step_may_lead_to_an_entry_of_the_same_node(self):
        # Twice up leads to the barred step; the entry is the same one both times.
        plant = Plant(0, [(0, "up", 1), (1, "up", 2), (2, "go", 0)], [], [2])
        self.assertEqual(spare(plant, View({}, ["up"])), [])
        plant = Plant(0, [(0, "up", 1), (1, "up", 2), (2, "go", 0)], [])
        self.assertEqual(spare(plant, View({}, ["up"])), [(0, "up")])

    def test_a_sight_without_a_move_leads_to_shut(self):
        # After up, which is seen, all is held, so the barred step cannot be done.
        plant = Plant(0, [(0, "up", 1), (1, "go", 2)], [], [1])
        self.assertEqual(spare(plant, seeing(["up"], ["up", "go"])), [(0, "go"), (0, "up")])
        self.assertEqual(spare(plant, View({}, ["up", "go"])), [(0, "go"), (0, "up")])
        self.assertEqual(widest(plant, seeing(["up"], ["up", "go"])).held, [()])
        self.assertEqual(widest(plant, View({}, ["up", "go"])).held, [("up",)])
        # What the view cannot hold is done at SHUT, too.
        self.assertEqual(spare(plant, seeing(["up"], ["up"])), [])

    def test_steps_that_are_neither_wanted_nor_barred(self):
        plant = Plant(0, [(0, "go", 1), (0, "up", 2), (2, "low", 1), (1, "low", 0)], [0, 3], [2])
        view = seeing(["go"], ["up", "low"])
        self.assertEqual(least_guard(plant, view).held, [("low", "up"), ("up",)])
        # At node 1 the unseen low, which is wanted there, may have led back to 0.
        self.assertEqual(spare(plant, view), [(0, "low"), (0, "up")])
        self.assertEqual(widest(plant, view).held, [("up",), ("up",)])

    def test_not_kept(self):
        for call in (spare, widest):
            error = caught(lambda: call(sample_plant(), sample_view()))
            self.assertIs(type(error), NotKept)

    def test_against_the_words_of_the_document(self):
        let, left = 0, 0
        for source, plant, view in kept_cases(900, 50):
            guard = least_guard(plant, view)
            found = [entry for entry in entries_of(guard)
                     if is_safe(plant, letting(guard, [entry]))]
            self.assertEqual(spare(plant, view), found)
            let += len(found)
            left += len(entries_of(guard)) - len(found)
        self.assertGreater(let, 100)
        self.assertGreater(left, 50)


class WidestTest(unittest.TestCase):
    def test_the_example_of_the_interface(self):
        guard = widest(lane_plant(), eye())
        self.assertEqual(guard, Guard(eye(), {(0, "go"): 1}, [["end"], []]))
        self.assertIs(type(guard), Guard)

    def test_nodes_and_moves_stay(self):
        for source, plant, view in kept_cases(200, 51):
            guard, wider = least_guard(plant, view), widest(plant, view)
            self.assertEqual(wider.moves, guard.moves)
            self.assertEqual(wider.size, guard.size)
            self.assertEqual(wider.view, view)

    def test_the_earlier_entry_is_let(self):
        # Of up at node 0 and low at node 1 only one can be let.
        steps = [(0, "go", 1), (0, "up", 2), (2, "go", 3), (3, "low", 4), (4, "hop", 0)]
        plant = Plant(0, steps, [0], [4])
        view = seeing(["go"], ["low", "up"])
        self.assertEqual(spare(plant, view), [(0, "low"), (0, "up"), (1, "low"), (1, "up")])
        self.assertEqual(widest(plant, view).held, [(), ("low",)])

    def test_words_that_the_plant_does_not_have(self):
        for source, plant, view in kept_cases(200, 52):
            for words in widest(plant, view).held:
                self.assertNotIn("halt", words)

    def test_against_the_words_of_the_document(self):
        both = 0
        for source, plant, view in kept_cases(600, 53):
            wider = widest(plant, view)
            self.assertEqual(wider, widest_by_words(plant, view))
            both += 0 < len(entries_of(wider)) < len(entries_of(least_guard(plant, view)))
        self.assertGreater(both, 20)

    def test_no_entry_that_is_left_can_be_let(self):
        looked = 0
        for source, plant, view in kept_cases(900, 54):
            wider = widest(plant, view)
            self.assertTrue(is_safe(plant, wider))
            for node, word in entries_of(wider):
                run = entry_run(plant, wider, node, word)
                self.assertIn(run[-1], plant.barred)
                looked += 1
        self.assertGreater(looked, 50)


class LimitTest(unittest.TestCase):
    def test_2000_standings(self):
        for call in (spare, widest):
            assert_too_many(self, 2000, lambda: call(wide_plant(20), seeing(["go"])))

    def test_2000_standings_come_before_not_kept(self):
        plant = wide_plant(20, [31])
        for call in (spare, widest):
            assert_too_many(self, 2000, lambda: call(plant, seeing(["go"])))

    def test_200_nodes(self):
        # After the first go the ends are one state of each cycle, 11 * 18 and 10 * 20 of them.
        view = seeing(["go"], ["up"])
        steps = sight_cycles(11, 18)
        plant = Plant(0, steps, list(range(len(steps))))
        self.assertEqual(len(spare(plant, view)), 199)
        self.assertEqual(widest(plant, view).held, [()] * 199)
        steps = sight_cycles(9, 23)
        plant = Plant(0, steps, list(range(len(steps))))
        for call in (spare, widest):
            assert_too_many(self, 200, lambda: call(plant, view))

    def test_not_kept_comes_before_200_nodes(self):
        steps = sight_cycles(9, 23) + [(0, "up", 50)]
        plant = Plant(0, steps, list(range(len(steps) - 1)), [len(steps) - 1])
        for call in (spare, widest):
            self.assertIs(type(caught(lambda: call(plant, seeing(["go"])))), NotKept)
            assert_too_many(self, 200, lambda: call(plant, seeing(["go"], ["up"])))

    def test_entry_run_has_no_limit(self):
        # 40 states and 200 nodes: 8000 spots.
        steps = [(0, "go", 0), (0, "low", 1)] + [(at, "low", at + 1) for at in range(1, 39)]
        plant = Plant(0, steps + [(39, "up", 0)], [], [len(steps)])
        view = seeing(["go"], ["up", "halt"])
        moves = {(node, "go"): (node + 1) % 200 for node in range(200)}
        guard = Guard(view, moves, [["halt", "up"]] * 200)
        run = (0,) * 199 + tuple(range(1, 41))
        self.assertEqual(entry_run(plant, guard, 199, "up"), run)
        self.assertIsNone(entry_run(plant, guard, 199, "halt"))
        guard = Guard(view, {(node, "go"): node + 1 for node in range(199)}, guard.held)
        self.assertEqual(entry_run(plant, guard, 199, "up"), run)

    def test_all_spots_of_a_guard_with_shut(self):
        plant = Plant(0, [(0, "go", 0), (0, "low", 1), (1, "go", 1), (1, "up", 0)], [], [3])
        guard = Guard(seeing(["go"], ["up", "halt"]), {(0, "go"): 1}, [["up", "halt"], ["up"]])
        self.assertIsNone(entry_run(plant, guard, 0, "halt"))
        self.assertEqual(entry_run(plant, guard, 1, "up"), (0, 1, 3))


class EntryRunTest(unittest.TestCase):
    def test_the_example_of_the_interface(self):
        guard = widest(lane_plant(), eye())
        self.assertEqual(entry_run(lane_plant(), guard, 0, "end"), (1, 3))

    def test_an_entry_that_can_be_let(self):
        guard = least_guard(lane_plant(), eye())
        self.assertIsNone(entry_run(lane_plant(), guard, 1, "hop"))

    def test_all_other_entries_stay(self):
        plant = Plant(0, [(0, "up", 1), (1, "low", 2)], [], [1])
        guard = Guard(View({}, ["up", "low"]), {}, [["up", "low"]])
        self.assertIsNone(entry_run(plant, guard, 0, "up"))
        self.assertIsNone(entry_run(plant, guard, 0, "low"))
        guard = Guard(View({}, ["up", "low"]), {}, [["up"]])
        self.assertEqual(entry_run(plant, guard, 0, "up"), (0, 1))

    def test_only_this_node(self):
        plant = Plant(0, [(0, "go", 0), (0, "up", 1)], [], [1])
        guard = Guard(seeing(["go"], ["up"]), {(0, "go"): 1, (1, "go"): 2, (2, "go"): 0},
                      [["up"]] * 3)
        self.assertEqual(entry_run(plant, guard, 0, "up"), (1,))
        self.assertEqual(entry_run(plant, guard, 1, "up"), (0, 1))
        self.assertEqual(entry_run(plant, guard, 2, "up"), (0, 0, 1))

    def test_a_guard_that_is_not_safe(self):
        # The run need not do the step that has been let.
        plant = Plant(0, [(0, "up", 1), (0, "go", 1)], [], [0, 1])
        guard = Guard(View({}, ["up"]), {}, [["up"]])
        self.assertEqual(entry_run(plant, guard, 0, "up"), (0,))
        plant = Plant(0, [(0, "go", 1), (0, "up", 1)], [], [0, 1])
        self.assertEqual(entry_run(plant, guard, 0, "up"), (0,))

    def test_the_least_of_several_shortest_runs(self):
        plant = Plant(0, [(0, "go", 2), (0, "go", 1), (1, "up", 3), (2, "up", 3), (2, "up", 4)],
                      [], [2, 3, 4])
        guard = Guard(seeing(["go"], ["up"]), {(0, "go"): 1}, [["up"], ["up"]])
        self.assertEqual(entry_run(plant, guard, 1, "up"), (0, 3))
        self.assertIsNone(entry_run(plant, guard, 0, "up"))

    def test_a_guard_of_any_view(self):
        guard = Guard(seeing(["walk"], ["halt", "end"]), {(0, "walk"): 1}, [["halt", "end"], ["end"]])
        self.assertEqual(entry_run(lane_plant(), guard, 0, "end"), (1, 3))
        self.assertIsNone(entry_run(lane_plant(), guard, 0, "halt"))
        self.assertIsNone(entry_run(lane_plant(), guard, 1, "end"))

    def test_things_that_are_no_guards(self):
        for thing in no_guards():
            assert_refused(self, BadGuard, "value", thing,
                           lambda: entry_run(lane_plant(), thing, 0, "end"))
        assert_refused(self, BadGuard, "value", None, lambda: entry_run(lane_plant(), None, -1, 5))

    def test_wrong_nodes(self):
        guard = sample_guard()
        for thing in [-1, 2, 200, 10 ** 6000] + no_integers():
            self.check_entry(guard, thing, "up")

    def test_wrong_words(self):
        guard = sample_guard()
        for thing in ["go", "down", "low"] + no_names():
            self.check_entry(guard, 0, thing)

    def test_words_that_are_held_only_elsewhere(self):
        self.check_entry(sample_guard(), 1, "up")
        self.check_entry(lane_guard(2), 0, "up")

    def test_both_wrong(self):
        self.check_entry(sample_guard(), DEEP_LIST, DEEP_TUPLE)
        self.check_entry(sample_guard(), DEEP_TUPLE, DEEP_LIST)

    def check_entry(self, guard, node, word):
        error = caught(lambda: entry_run(sample_plant(), guard, node, word))
        self.assertIs(type(error), BadEntry)
        self.assertIs(type(error.value), tuple)
        self.assertEqual(len(error.value), 2)
        self.assertIs(error.value[0], node)
        self.assertIs(error.value[1], word)

    def test_against_the_slow_search(self):
        told = 0
        for source in cases(200, 55):
            plant = make_plant(source, most=7)
            guard = make_guard(source, make_view(source))
            for node, word in entries_of(guard):
                runs = let_runs_up_to(plant, [letting(guard, [(node, word)])], LENGTH)
                found = [run for run in runs if run and run[-1] in plant.barred]
                run = entry_run(plant, guard, node, word)
                if found:
                    self.assertEqual(run, found[0])
                    told += 1
                elif run is not None:
                    self.assertGreater(len(run), LENGTH)
        self.assertGreater(told, 50)


class OwnershipTest(unittest.TestCase):
    def test_arguments_are_not_changed(self):
        plant, view = lane_plant(), eye()
        wider = widest(plant, view)
        spare(plant, view)
        entry_run(plant, wider, 0, "end")
        self.assertEqual(plant, lane_plant())
        self.assertEqual(view, eye())
        self.assertEqual(wider, Guard(eye(), {(0, "go"): 1}, [["end"], []]))

    def test_the_guard_does_not_change_with_the_view(self):
        view = eye()
        wider = widest(lane_plant(), view)
        view["go"] = None
        view.hold_just([])
        self.assertEqual(wider.view, eye())

    def test_returned_lists_are_new(self):
        plant, view = lane_plant(), eye()
        spare(plant, view).clear()
        self.assertEqual(spare(plant, view), [(1, "hop")])


if __name__ == "__main__":
    unittest.main()
