"""Points [2] to [6] and [17] to [20]: runs and the ends of wanted runs."""

import unittest

from leastguards.errors import BadRun, BadSights
from leastguards.plants import Plant
from leastguards.runs import alike, end_of, is_wanted, sights_of, wanted_ends
from leastguards.views import View, seeing
from tests.helper import (DEEP_LIST, DEEP_TUPLE, all_things, assert_refused_at, no_integers,
                          no_names, no_rows, sample_plant, sample_view)
from tests.slow import (cases, end_of_run, is_wanted_run, make_plant, make_view, rows_up_to,
                        runs_up_to, sights_of_run, wanted_runs_up_to)

RUNS = [(), (0,), (1,), (0, 2), (1, 3), (1, 4), (1, 4, 0), (0, 2, 1, 4, 0, 2)]


def callers():
    """Each function that takes a run, as a function of the run alone."""
    plant, view = sample_plant(), sample_view()
    return [lambda run: end_of(plant, run), lambda run: is_wanted(plant, run),
            lambda run: sights_of(plant, view, run), lambda run: alike(plant, view, run, ()),
            lambda run: alike(plant, view, (), run), lambda run: alike(plant, view, run, run)]


class RefusedRunsTest(unittest.TestCase):
    def test_runs_that_are_no_tuples(self):
        for call in callers():
            for thing in all_things():
                if isinstance(thing, tuple):
                    continue
                assert_refused_at(self, BadRun, -1, lambda: call(thing))
            for thing in ([0], [], [0, 2], range(1), {0: 1}):
                assert_refused_at(self, BadRun, -1, lambda: call(thing))

    def test_items_that_are_no_numbers_of_steps(self):
        for call in callers():
            for thing in [5, -1, -5, 60, 10 ** 6000] + no_integers():
                assert_refused_at(self, BadRun, 0, lambda: call((thing,)))
                assert_refused_at(self, BadRun, 2, lambda: call((0, 2, thing, None)))

    def test_true_and_false_are_no_numbers(self):
        plant = Plant(0, [(0, "go", 0), (0, "up", 0)], [])
        for thing in (True, False):
            assert_refused_at(self, BadRun, 1, lambda: end_of(plant, (0, thing)))
        self.assertEqual(end_of(plant, (0, 1)), 0)

    def test_steps_that_begin_elsewhere(self):
        for call in callers():
            assert_refused_at(self, BadRun, 0, lambda: call((2,)))
            assert_refused_at(self, BadRun, 1, lambda: call((0, 0)))
            assert_refused_at(self, BadRun, 1, lambda: call((0, 3)))
            assert_refused_at(self, BadRun, 2, lambda: call((1, 3, 0)))

    def test_the_first_wrong_item_is_reported(self):
        for call in callers():
            assert_refused_at(self, BadRun, 1, lambda: call((0, 0, None)))
            assert_refused_at(self, BadRun, 1, lambda: call((0, None, 0)))
            assert_refused_at(self, BadRun, 0, lambda: call((DEEP_TUPLE, DEEP_LIST)))

    def test_one_is_checked_before_other(self):
        plant, view = sample_plant(), sample_view()
        assert_refused_at(self, BadRun, 1, lambda: alike(plant, view, (0, 0), None))
        assert_refused_at(self, BadRun, -1, lambda: alike(plant, view, [0], (0, 0)))
        assert_refused_at(self, BadRun, 0, lambda: alike(plant, view, (0,), (2, 0)))


class RunsTest(unittest.TestCase):
    def test_the_empty_run(self):
        plant = Plant(7, [(7, "go", 8)], [])
        self.assertEqual(end_of(plant, ()), 7)
        self.assertIs(is_wanted(plant, ()), True)
        self.assertEqual(sights_of(plant, seeing(["go"]), ()), [])
        self.assertIs(alike(plant, View(), (), ()), True)

    def test_ends(self):
        self.assertEqual([end_of(sample_plant(), run) for run in RUNS], [0, 1, 2, 0, 3, 0, 1, 0])

    def test_a_run_goes_on_from_the_last_end(self):
        plant = Plant(9, [(0, "go", 9), (9, "go", 0), (9, "go", 9)], [])
        self.assertEqual(end_of(plant, (2, 2, 1, 0, 1)), 0)

    def test_wanted_runs(self):
        plant = sample_plant()
        for run in RUNS:
            self.assertIs(is_wanted(plant, run), 3 not in run)

    def test_a_step_that_is_neither_wanted_nor_barred(self):
        plant = Plant(0, [(0, "go", 0), (0, "up", 0)], [0])
        self.assertIs(is_wanted(plant, (0, 0)), True)
        self.assertIs(is_wanted(plant, (0, 1)), False)
        self.assertIs(is_wanted(plant, (1, 0)), False)

    def test_sights(self):
        plant, view = sample_plant(), sample_view()
        told = [sights_of(plant, view, run) for run in RUNS]
        self.assertEqual(told, [[], ["g"], ["g"], ["g", "u"], ["g", "u"], ["g"], ["g", "g"],
                                ["g", "u", "g", "g", "u"]])
        self.assertEqual(sights_of(plant, View(), (1, 4, 0)), [])
        self.assertEqual(sights_of(plant, seeing(["low"]), (1, 4, 0)), ["low"])

    def test_alike(self):
        plant, view = sample_plant(), sample_view()
        self.assertIs(alike(plant, view, (0,), (1, 4)), True)
        self.assertIs(alike(plant, view, (0, 2), (1, 3)), True)
        self.assertIs(alike(plant, view, (0,), ()), False)
        self.assertIs(alike(plant, view, (0,), (0, 2)), False)
        self.assertIs(alike(plant, View(), (0, 2, 1), ()), True)
        # Equal counts of sights in another order are no equal sights.
        twice = Plant(0, [(0, "go", 0), (0, "up", 0)], [])
        self.assertIs(alike(twice, view, (0, 1), (1, 0)), False)

    def test_a_told_list_is_new(self):
        plant, view = sample_plant(), sample_view()
        sights_of(plant, view, (0, 2)).clear()
        self.assertEqual(sights_of(plant, view, (0, 2)), ["g", "u"])
        self.assertEqual(view, sample_view())

    def test_against_the_slow_search(self):
        for source in cases(60, 1):
            plant, view = make_plant(source), make_view(source)
            runs = runs_up_to(plant, 3)
            for run in runs:
                self.assertEqual(end_of(plant, run), end_of_run(plant, run))
                self.assertIs(is_wanted(plant, run), is_wanted_run(plant, run))
                self.assertEqual(sights_of(plant, view, run), sights_of_run(plant, view, run))
            for one in runs[:8]:
                for other in runs:
                    same = sights_of_run(plant, view, one) == sights_of_run(plant, view, other)
                    self.assertIs(alike(plant, view, one, other), same)

    def test_a_long_run(self):
        plant = Plant(0, [(0, "go", 1), (1, "up", 0)], [0, 1])
        run = (0, 1) * 5000
        self.assertEqual(end_of(plant, run), 0)
        self.assertEqual(sights_of(plant, seeing(["up"]), run), ["up"] * 5000)


class WantedEndsTest(unittest.TestCase):
    def test_the_examples_of_the_interface(self):
        plant, view = sample_plant(), sample_view()
        self.assertEqual(sights_of(plant, view, (1, 4, 0)), ["g", "g"])
        self.assertEqual(wanted_ends(plant, view, ["g"]), [0, 1, 2])
        assert_refused_at(self, BadSights, 2, lambda: wanted_ends(plant, view, ["g", "u", "u"]))

    def test_the_empty_row(self):
        plant = sample_plant()
        for row in ([], ()):
            self.assertEqual(wanted_ends(plant, sample_view(), row), [0])
            self.assertEqual(wanted_ends(plant, View(), row), [0, 1, 2])
            self.assertEqual(wanted_ends(plant.giving_up([0, 1, 2, 4]), View(), row), [0])

    def test_tuples_are_rows(self):
        self.assertEqual(wanted_ends(sample_plant(), sample_view(), ("g", "u")), [0])

    def test_steps_that_are_not_wanted_lead_nowhere(self):
        plant = Plant(0, [(0, "go", 1), (0, "go", 2), (1, "up", 3)], [1])
        self.assertEqual(wanted_ends(plant, seeing(["go"]), ["go"]), [2])
        self.assertEqual(wanted_ends(plant, View(), []), [0, 2])

    def test_words_of_one_sight(self):
        plant = Plant(0, [(0, "go", 1), (0, "up", 2), (0, "low", 3)], [0, 1, 2])
        view = View({"go": "x", "up": "x", "low": "l"})
        self.assertEqual(wanted_ends(plant, view, ["x"]), [1, 2])
        assert_refused_at(self, BadSights, 0, lambda: wanted_ends(plant, view, ["go"]))

    def test_sights_that_are_no_row(self):
        for thing in no_rows():
            assert_refused_at(self, BadSights, -1,
                              lambda: wanted_ends(sample_plant(), sample_view(), thing))

    def test_items_that_are_no_names(self):
        plant, view = sample_plant(), sample_view()
        for thing in no_names():
            assert_refused_at(self, BadSights, 0, lambda: wanted_ends(plant, view, [thing]))
            assert_refused_at(self, BadSights, 1, lambda: wanted_ends(plant, view, ("g", thing)))

    def test_the_first_refused_item_is_reported(self):
        plant, view = sample_plant(), sample_view()
        for row, at in ((["u", None], 0), ([None, "u"], 0), (["g", "zoo", 5], 1),
                        (["g", "u", "g", "low"], 3), (["g", "g", "g", "u", "u", ""], 4)):
            assert_refused_at(self, BadSights, at, lambda: wanted_ends(plant, view, row))

    def test_a_plant_in_which_no_step_is_wanted(self):
        plant = Plant(0, [(0, "go", 1)], [], [0])
        self.assertEqual(wanted_ends(plant, seeing(["go"]), []), [0])
        assert_refused_at(self, BadSights, 0, lambda: wanted_ends(plant, seeing(["go"]), ["go"]))

    def test_arguments_are_not_changed_and_a_told_list_is_new(self):
        plant, view, row = sample_plant(), sample_view(), ["g", "u"]
        wanted_ends(plant, view, row).clear()
        self.assertEqual(wanted_ends(plant, view, row), [0])
        self.assertEqual((plant, view, row), (sample_plant(), sample_view(), ["g", "u"]))

    def test_against_the_slow_search(self):
        # With 3 states at most 2 unseen steps stand before, between and after 2 seen ones.
        for source in cases(60, 2):
            plant, view = make_plant(source, most=8), make_view(source)
            ends = {}
            for run in wanted_runs_up_to(plant, 8):
                sights = tuple(sights_of_run(plant, view, run))
                ends.setdefault(sights, set()).add(end_of_run(plant, run))
            for row in rows_up_to(["a", "b", "c"], 2):
                if tuple(row) in ends:
                    self.assertEqual(wanted_ends(plant, view, row), sorted(ends[tuple(row)]))
                else:
                    at = min(k for k in range(len(row)) if tuple(row[:k + 1]) not in ends)
                    assert_refused_at(self, BadSights, at, lambda: wanted_ends(plant, view, row))


if __name__ == "__main__":
    unittest.main()
