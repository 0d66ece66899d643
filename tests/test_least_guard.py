"""Point [28]: the least guard of a plant and a view."""

import unittest

from leastguards.guards import Guard, least_guard
from leastguards.plants import Plant
from leastguards.views import View, seeing
from tests.helper import assert_too_many, sample_guard, sample_plant, sample_view
from tests.slow import (cases, end_of_run, held_after, make_plant, make_view, rows_up_to,
                        sights_of_run, wanted_runs_up_to)


def lasso_plant(tail, sizes):
    """Wanted steps go along a tail and from its last state into rings of these sizes.

    The ends are one set for each state of the tail, and then one for each pair of places in two
    rings: as many as the least common multiple of their sizes.
    """
    steps = [(state, "go", state + 1) for state in range(tail - 1)]
    base = tail
    for size in sizes:
        steps.append((tail - 1, "go", base))
        steps += [(base + at, "go", base + (at + 1) % size) for at in range(size)]
        base += size
    return Plant(0, steps, list(range(len(steps))))


def slow_ends(plant, view):
    """The ends of the wanted runs of at most 8 steps, under their sights."""
    by_sights = {}
    for run in wanted_runs_up_to(plant, 8):
        sights = tuple(sights_of_run(plant, view, run))
        by_sights.setdefault(sights, set()).add(end_of_run(plant, run))
    return {row: tuple(sorted(ends)) for row, ends in by_sights.items()}


class LeastGuardTest(unittest.TestCase):
    def test_the_example_of_the_interface(self):
        guard = least_guard(sample_plant(), sample_view())
        self.assertEqual(guard.held, [("up",), ()])
        self.assertEqual(guard.moves, {(0, "g"): 1, (1, "g"): 1, (1, "u"): 0})
        self.assertEqual(guard, sample_guard())
        self.assertIs(type(guard), Guard)

    def test_no_step_is_wanted(self):
        plant = Plant(0, [(0, "go", 1), (1, "up", 0)], [], [0])
        view = seeing(["go", "up"], ["up", "go", "halt"])
        self.assertEqual(least_guard(plant, view), Guard(view, {}, [["go", "halt", "up"]]))
        self.assertEqual(least_guard(plant, View()), Guard(View(), {}, [[]]))

    def test_wanted_steps_that_no_wanted_run_reaches(self):
        plant = Plant(0, [(0, "go", 1), (1, "up", 0)], [1])
        view = seeing(["go", "up"], ["up"])
        self.assertEqual(least_guard(plant, view), Guard(view, {}, [["up"]]))

    def test_words_that_the_plant_does_not_have_are_held(self):
        view = View({"go": "g", "zoo": "z"}, ["halt", "zoo", "go"])
        guard = least_guard(sample_plant(), view)
        self.assertEqual(guard.held, [("halt", "zoo"), ("halt", "zoo")])
        # Behind g the plant is in 0, 1 or 2; before it in 0 alone.
        self.assertEqual(guard.moves, {(0, "g"): 1, (1, "g"): 1})

    def test_a_view_that_sees_nothing(self):
        view = View({}, ["up", "halt"])
        self.assertEqual(least_guard(sample_plant(), view), Guard(view, {}, [["halt"]]))

    def test_unseen_wanted_steps_go_on(self):
        plant = Plant(0, [(0, "low", 1), (1, "low", 2), (2, "go", 3), (3, "low", 4), (4, "up", 4)],
                      [0, 1, 2, 3, 4])
        view = View({"go": "g"}, ["go", "low", "up"])
        self.assertEqual(least_guard(plant, view), Guard(view, {(0, "g"): 1}, [["up"], ["go"]]))

    def test_two_nodes_may_hold_alike(self):
        plant = Plant(0, [(0, "go", 1), (1, "go", 0)], [0, 1])
        guard = least_guard(plant, seeing(["go"], ["up"]))
        self.assertEqual(guard.size, 2)
        self.assertEqual(guard.smallest().size, 1)

    def test_node_0_stands_for_the_set_of_the_empty_row(self):
        # The ends of the empty row are met again after go.
        plant = Plant(0, [(0, "go", 0), (0, "up", 1), (1, "go", 0)], [0, 1, 2])
        view = seeing(["go", "up"], ["go", "up"])
        self.assertEqual(least_guard(plant, view),
                         Guard(view, {(0, "go"): 0, (0, "up"): 1, (1, "go"): 0}, [[], ["up"]]))

    def test_nodes_are_numbered_breadth_first_by_sights(self):
        steps = [(0, "go", 4), (0, "up", 3), (3, "go", 2), (4, "up", 1)]
        view = View({"go": "z", "up": "a"}, ["go", "up"])
        guard = least_guard(Plant(0, steps, [0, 1, 2, 3]), view)
        self.assertEqual(guard.moves, {(0, "a"): 1, (0, "z"): 2, (1, "z"): 3, (2, "a"): 4})
        self.assertEqual(guard.held, [(), ("up",), ("go",), ("go", "up"), ("go", "up")])

    def test_words_of_one_sight_lead_to_one_set(self):
        plant = Plant(0, [(0, "go", 1), (0, "up", 2), (1, "low", 0)], [0, 1, 2])
        view = View({"go": "x", "up": "x"}, ["low"])
        self.assertEqual(least_guard(plant, view),
                         Guard(view, {(0, "x"): 1, (1, "x"): 1}, [["low"], []]))

    def test_later_changes_of_the_view(self):
        view = sample_view()
        guard = least_guard(sample_plant(), view)
        view["low"] = "l"
        view.holds = []
        self.assertEqual(guard, sample_guard())

    def test_arguments_are_not_changed_and_each_guard_is_new(self):
        plant, view = sample_plant(), sample_view()
        self.assertIsNot(least_guard(plant, view), least_guard(plant, view))
        self.assertEqual((plant, view), (sample_plant(), sample_view()))


class LimitTest(unittest.TestCase):
    def test_200_sets_and_one_more(self):
        # Rings of 9 and 22 states are at 198 pairs of places.
        view = seeing(["go"], ["go"])
        self.assertEqual(least_guard(lasso_plant(2, [9, 22]), view).size, 200)
        assert_too_many(self, 200, lambda: least_guard(lasso_plant(3, [9, 22]), view))
        # Rings of 8 and 25 states are at 200.
        assert_too_many(self, 200, lambda: least_guard(lasso_plant(1, [8, 25]), view))

    def test_a_ring_of_200_sets(self):
        guard = least_guard(lasso_plant(2, [9, 22]), seeing(["go"], ["go"]))
        moves = {(node, "go"): node + 1 for node in range(199)}
        self.assertEqual(guard.moves, {**moves, (199, "go"): 2})
        self.assertEqual(guard.held, [()] * 200)

    def test_many_more_sets(self):
        plant = lasso_plant(1, [7, 11, 13])
        assert_too_many(self, 200, lambda: least_guard(plant, seeing(["go"])))
        self.assertEqual(least_guard(plant, View()).size, 1)

    def test_sets_of_many_words(self):
        steps = [(state, word, (state + jump) % 30) for state in range(30)
                 for word, jump in (("go", 1), ("up", 7))]
        view = View({"go": "x", "up": "x"}, ["go"])
        plant = Plant(0, steps, list(range(60)))
        self.assertEqual(least_guard(plant, view).held[:2], [(), ()])


class SlowSearchTest(unittest.TestCase):
    def test_what_is_held(self):
        # With 3 states at most 2 unseen steps stand before, between and after 2 seen ones.
        for source in cases(80, 8):
            plant, view = make_plant(source, most=8), make_view(source)
            guard = least_guard(plant, view)
            going_on = {}
            for run in wanted_runs_up_to(plant, 8):
                sights = tuple(sights_of_run(plant, view, run))
                words = [plant.steps[number][1] for number in plant.wanted
                         if plant.steps[number][0] == end_of_run(plant, run)]
                going_on.setdefault(sights, set()).update(words)
            for row in rows_up_to(["a", "b", "c"], 2):
                held = [word for word in view.holds if word not in going_on.get(tuple(row), [])]
                self.assertEqual(guard(row), held)
                self.assertEqual(held_after(guard, row), held)

    def test_nodes_are_sets_of_ends(self):
        for source in cases(80, 9):
            plant, view = make_plant(source, most=8), make_view(source)
            guard = least_guard(plant, view)
            ends = slow_ends(plant, view)
            numbers = {}
            for row in rows_up_to(sorted(set(view.sights.values())), 2):
                node = guard.node_after(row)
                self.assertEqual(node is None, tuple(row) not in ends)
                if node is not None:
                    # A new set gets the next number, as rows come in the order of the search.
                    numbers.setdefault(ends[tuple(row)], len(numbers))
                    self.assertEqual(numbers[ends[tuple(row)]], node)


if __name__ == "__main__":
    unittest.main()
