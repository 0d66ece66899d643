"""Points [29] to [32]: what guards let."""

import unittest

from leastguards.errors import BadEntry, BadGuards, BadRun
from leastguards.guards import Guard, least_guard
from leastguards.letting import first_held, let_more, lets, shortest_let, stuck
from leastguards.plants import Plant
from leastguards.views import View, seeing
from tests.helper import (DEEP_LIST, DEEP_TUPLE, all_things, assert_refused, assert_refused_at,
                          assert_too_many, lane_guard, no_guards, no_integers, no_rows, sample_guard,
                          sample_plant, sample_view)
from tests.slow import (cases, end_of_run, is_held_by, let_runs_up_to, let_words, make_guard,
                        make_plant, make_view, runs_up_to)

LENGTH = 6


def ring(size, seen="go", holds=(), held=()):
    """A guard that goes round so many nodes by one word, and holds the same words everywhere."""
    moves = {(node, seen): (node + 1) % size for node in range(size)}
    return Guard(seeing([seen], holds), moves, [held] * size)


def lane_plant(tail, more=()):
    """Steps "go" along so many states to a last one, where a step "go" goes round.

    With rings of 199 and of 25 nodes it has one spot for each state of the lane, and then
    199 * 25 = 4975 spots.
    """
    steps = [(state, "go", state + 1) for state in range(tail)] + [(tail, "go", tail)]
    return Plant(0, steps + list(more), [])


def wide_guard():
    """A guard that can hold nothing."""
    return Guard(View(), {}, [[]])


def callers():
    """Each function that takes guards, as a function of the guards alone."""
    plant, guard = sample_plant(), sample_guard()
    return [lambda guards: first_held(plant, guards, ()), lambda guards: lets(plant, guards, ()),
            lambda guards: shortest_let(plant, guards, 0), lambda guards: stuck(plant, guards),
            lambda guards: let_more(plant, guards, [guard]),
            lambda guards: let_more(plant, [guard], guards)]


class RefusedGuardsTest(unittest.TestCase):
    def test_guards_that_are_no_row(self):
        for call in callers():
            for thing in no_rows() + [sample_guard(), {0: sample_guard()}]:
                assert_refused_at(self, BadGuards, -1, lambda: call(thing))

    def test_0_and_4_guards_and_more(self):
        guard = sample_guard()
        for call in callers():
            for thing in ([], (), [guard] * 4, (guard,) * 4, [None] * 4, [guard] * 100):
                assert_refused_at(self, BadGuards, -1, lambda: call(thing))

    def test_1_to_3_guards(self):
        guard = sample_guard()
        for call in callers():
            for thing in ([guard], (guard,), [guard] * 2, [guard] * 3, (wide_guard(), guard, guard)):
                call(thing)

    def test_items_that_are_no_guards(self):
        guard = sample_guard()
        for call in callers():
            for thing in no_guards():
                assert_refused_at(self, BadGuards, 0, lambda: call([thing]))
                assert_refused_at(self, BadGuards, 1, lambda: call((guard, thing, None)))
                assert_refused_at(self, BadGuards, 2, lambda: call([guard, guard, thing]))

    def test_guards_are_checked_before_all_else(self):
        plant, guard = sample_plant(), sample_guard()
        for call in (first_held, lets, shortest_let, let_more):
            assert_refused_at(self, BadGuards, 0, lambda: call(plant, [None], None))
            assert_refused_at(self, BadGuards, -1, lambda: call(plant, [], [None]))
        assert_refused_at(self, BadGuards, 1, lambda: let_more(plant, [guard, 5], []))
        assert_refused_at(self, BadGuards, -1, lambda: let_more(plant, [guard], []))

    def test_guards_are_checked_before_the_spots_are_counted(self):
        plant, rings = lane_plant(26), [ring(199), ring(25)]
        for call in (lambda: stuck(plant, rings + [None]),
                     lambda: let_more(plant, rings, [wide_guard(), wide_guard(), None]),
                     lambda: shortest_let(plant, rings + [None], 0)):
            assert_refused_at(self, BadGuards, 2, call)


class FirstHeldTest(unittest.TestCase):
    def test_the_examples_of_the_interface(self):
        plant, view = sample_plant(), sample_view()
        guard = least_guard(plant, view)
        self.assertIsNone(first_held(plant, [guard], (1, 3)))
        # The sight g leads to SHUT, where up is held.
        self.assertEqual(first_held(plant, [Guard(view, {}, [[]])], (0, 2)), 1)

    def test_the_empty_run(self):
        plant = sample_plant()
        everything = Guard(View({}, ["go", "up", "low"]), {}, [["go", "up", "low"]])
        self.assertIsNone(first_held(plant, [everything], ()))
        self.assertIs(lets(plant, [everything], ()), True)

    def test_the_first_held_step(self):
        plant = Plant(0, [(0, "go", 0), (0, "up", 0)], [])
        guard = Guard(seeing(["go"], ["up"]), {(0, "go"): 1, (1, "go"): 2}, [[], ["up"], []])
        for run, at in (((), None), ((1,), None), ((0, 1), 1), ((1, 0, 1, 1), 2),
                        ((1, 0, 0, 1), None), ((0, 0, 0, 1), 3), ((0, 0, 0, 0, 0, 0), None)):
            self.assertEqual(first_held(plant, [guard], run), at)
            self.assertIs(lets(plant, [guard], run), at is None)

    def test_any_of_the_guards_may_hold(self):
        plant = Plant(0, [(0, "go", 0), (0, "up", 0), (0, "low", 0)], [])
        guards = [Guard(View({}, ["go"]), {}, [["go"]]),
                  Guard(seeing(["low"], ["up"]), {(0, "low"): 0}, [["up"]]),
                  Guard(seeing(["up"], ["low"]), {(0, "up"): 0}, [[]])]
        self.assertEqual(first_held(plant, guards, (2, 2, 1)), 2)
        self.assertEqual(first_held(plant, guards, (2, 0, 1)), 1)
        self.assertEqual(first_held(plant, guards[:1], (2, 1, 1)), None)
        self.assertEqual(first_held(plant, guards[2:], (1, 1, 2, 0)), None)

    def test_each_guard_sees_by_its_own_view(self):
        plant = Plant(0, [(0, "go", 0), (0, "up", 0)], [])
        one = Guard(View({"go": "a"}, ["up"]), {(0, "a"): 1}, [["up"], []])
        other = Guard(View({"up": "a"}, ["go"]), {(0, "a"): 0}, [[]])
        self.assertIsNone(first_held(plant, [one, other], (0, 1)))
        self.assertEqual(first_held(plant, [one, other], (1, 0)), 0)
        # A second go leads the first guard to SHUT.
        self.assertEqual(first_held(plant, [one, other], (0, 0, 0, 1)), 3)

    def test_runs_are_checked_after_guards_and_whole(self):
        plant, guard = sample_plant(), Guard(View({}, ["go"]), {}, [["go"]])
        for call in (first_held, lets):
            for thing in all_things():
                if not isinstance(thing, tuple):
                    assert_refused_at(self, BadRun, -1, lambda: call(plant, [guard], thing))
            for thing in no_integers() + [5, -1, 10 ** 6000]:
                assert_refused_at(self, BadRun, 1, lambda: call(plant, [guard], (0, thing)))
            assert_refused_at(self, BadRun, 2, lambda: call(plant, [guard], (0, 2, 2)))
            assert_refused_at(self, BadRun, 0, lambda: call(plant, [guard], (DEEP_TUPLE, DEEP_LIST)))

    def test_no_limit(self):
        plant, rings = lane_plant(26), [ring(199), ring(25), ring(197)]
        run = tuple(range(26)) + (26,) * 20000
        self.assertIsNone(first_held(plant, rings, run))
        self.assertIs(lets(plant, rings, run), True)

    def test_against_the_slow_search(self):
        for source in cases(80, 10):
            plant = make_plant(source, most=7)
            guards = [make_guard(source, make_view(source)) for _ in range(source.randint(1, 3))]
            for run in runs_up_to(plant, 4):
                held = [at for at in range(len(run)) if any(
                    is_held_by(plant, guard, run[:at], plant.steps[run[at]][1])
                    for guard in guards)]
                self.assertEqual(first_held(plant, guards, run), held[0] if held else None)
                self.assertIs(lets(plant, guards, run), not held)


class ShortestLetTest(unittest.TestCase):
    def test_the_example_of_the_interface(self):
        self.assertEqual(shortest_let(sample_plant(), [sample_guard()], 3), (1, 3))

    def test_a_run_of_one_step(self):
        self.assertEqual(shortest_let(sample_plant(), [sample_guard()], 0), (0,))
        self.assertEqual(shortest_let(sample_plant(), (sample_guard(),), 1), (1,))

    def test_the_least_of_several_shortest_runs(self):
        steps = [(0, "go", 2), (0, "go", 1), (1, "up", 3), (2, "up", 3), (3, "low", 0),
                 (0, "up", 5)]
        plant = Plant(0, steps, [])
        self.assertEqual(shortest_let(plant, [wide_guard()], 4), (0, 3, 4))
        held_once = Guard(seeing(["go"], ["go"]), {(0, "go"): 0}, [[]])
        self.assertEqual(shortest_let(plant, [held_once], 4), (0, 3, 4))

    def test_a_shorter_run_goes_before_a_lesser_one(self):
        plant = Plant(0, [(0, "go", 1), (1, "go", 2), (0, "up", 2), (2, "low", 0)], [])
        self.assertEqual(shortest_let(plant, [wide_guard()], 3), (2, 3))
        guard = Guard(View({}, ["up"]), {}, [["up"]])
        self.assertEqual(shortest_let(plant, [guard], 3), (0, 1, 3))

    def test_a_step_that_is_held_at_first(self):
        plant = Plant(0, [(0, "go", 0), (0, "up", 0)], [])
        guard = Guard(seeing(["go"], ["up"]), {(0, "go"): 1, (1, "go"): 2},
                      [["up"], ["up"], []])
        self.assertEqual(shortest_let(plant, [guard], 1), (0, 0, 1))

    def test_steps_that_no_let_run_does(self):
        self.assertIsNone(shortest_let(Plant(0, [(0, "go", 1), (2, "up", 0)], []),
                                       [wide_guard()], 1))
        guard = Guard(seeing([], ["go"]), {}, [["go"]])
        for number in range(5):
            self.assertIsNone(shortest_let(sample_plant(), [guard], number))

    def test_wrong_numbers(self):
        plant, guard = sample_plant(), sample_guard()
        for thing in [-1, 5, 60, 10 ** 6000] + no_integers():
            assert_refused(self, BadEntry, "value", thing,
                           lambda: shortest_let(plant, [guard], thing))

    def test_the_number_is_checked_before_the_spots_are_counted(self):
        plant, rings = lane_plant(26), [ring(199), ring(25)]
        assert_refused(self, BadEntry, "value", 27, lambda: shortest_let(plant, rings, 27))
        assert_refused(self, BadEntry, "value", True, lambda: shortest_let(plant, rings, True))

    def test_against_the_slow_search(self):
        for source in cases(200, 11):
            plant = make_plant(source, most=7)
            guards = [make_guard(source, make_view(source), 2) for _ in range(source.randint(1, 3))]
            runs = let_runs_up_to(plant, guards, LENGTH)
            for number in range(len(plant.steps)):
                found = [run for run in runs if run and run[-1] == number]
                check_shortest(self, shortest_let(plant, guards, number), found)


def check_shortest(case, told, found):
    """The told run is the first found one; where none was found it may be a longer one."""
    if found:
        case.assertEqual(told, found[0])
        case.assertIs(type(told), tuple)
    elif told is not None:
        case.assertGreater(len(told), LENGTH)


class LetMoreTest(unittest.TestCase):
    def test_a_held_step(self):
        plant, view = sample_plant(), sample_view()
        shut = Guard(view, {}, [["up"]])
        self.assertEqual(let_more(plant, [sample_guard()], [shut]), (0, 2))
        self.assertIsNone(let_more(plant, [shut], [sample_guard()]))

    def test_guards_that_let_the_same(self):
        plant, guard = sample_plant(), sample_guard()
        self.assertIsNone(let_more(plant, [guard], [guard]))
        self.assertIsNone(let_more(plant, (guard,), (guard, guard, guard)))
        self.assertIsNone(let_more(plant, [guard], [wide_guard()]))

    def test_guards_that_hold_apart_but_let_the_same(self):
        # The plant never does low before go, and has no halt.
        plant = Plant(0, [(0, "go", 1), (1, "low", 1)], [])
        one = Guard(seeing(["go"], ["low", "halt"]), {(0, "go"): 1}, [["low"], []])
        other = Guard(seeing(["go"], ["low", "halt"]), {(0, "go"): 1}, [["halt"], []])
        self.assertIsNone(let_more(plant, [one], [other]))
        self.assertIsNone(let_more(plant, [other], [one]))

    def test_others_of_other_views(self):
        plant = Plant(0, [(0, "go", 0), (0, "up", 0), (0, "low", 0)], [])
        no_up = Guard(View({}, ["up"]), {}, [["up"]])
        once_go = Guard(seeing(["go"], ["go"]), {(0, "go"): 1}, [[], ["go"]])
        self.assertEqual(let_more(plant, [no_up], [once_go]), (0, 0))
        self.assertEqual(let_more(plant, [once_go], [no_up]), (1,))
        self.assertEqual(let_more(plant, [wide_guard()], [no_up, once_go]), (1,))
        self.assertEqual(let_more(plant, [no_up], [no_up, once_go]), (0, 0))
        self.assertIsNone(let_more(plant, [no_up, once_go, no_up], [once_go, no_up]))

    def test_the_least_of_several_shortest_runs(self):
        plant = Plant(0, [(0, "go", 2), (0, "go", 1), (1, "up", 0), (2, "up", 0), (2, "low", 0)],
                      [])
        others = Guard(seeing(["go"], ["up", "low"]), {(0, "go"): 1}, [[], ["up", "low"]])
        self.assertEqual(let_more(plant, [wide_guard()], [others]), (0, 3))
        no_up = Guard(View({}, ["up"]), {}, [["up"]])
        self.assertEqual(let_more(plant, [no_up], [others]), (0, 4))

    def test_both_rows_are_checked_in_order(self):
        plant, guard = sample_plant(), sample_guard()
        for thing in no_guards():
            assert_refused_at(self, BadGuards, 1,
                              lambda: let_more(plant, [guard], [guard, thing, None]))
        assert_refused_at(self, BadGuards, 0, lambda: let_more(plant, [None], [guard] * 4))

    def test_against_the_slow_search(self):
        for source in cases(200, 12):
            plant = make_plant(source, most=7)
            guards = [make_guard(source, make_view(source), 2) for _ in range(source.randint(1, 2))]
            others = [make_guard(source, make_view(source), 2) for _ in range(source.randint(1, 2))]
            less = let_runs_up_to(plant, others, LENGTH)
            runs = let_runs_up_to(plant, guards, LENGTH)
            found = [run for run in runs if run not in less]
            check_shortest(self, let_more(plant, guards, others), found)


class StuckTest(unittest.TestCase):
    def test_nothing_is_held(self):
        self.assertIsNone(stuck(sample_plant(), [wide_guard()]))
        self.assertIsNone(stuck(sample_plant(), [sample_guard()]))

    def test_all_steps_of_the_start_are_held(self):
        guard = Guard(View({}, ["go"]), {}, [["go"]])
        self.assertEqual(stuck(sample_plant(), [guard]), ())

    def test_a_state_where_no_steps_begin_is_not_stuck(self):
        guard = Guard(View({}, ["go", "up"]), {}, [["up"]])
        self.assertIsNone(stuck(Plant(0, [(0, "go", 1)], []), [guard]))
        self.assertIsNone(stuck(Plant(5, [(0, "go", 1)], []), [guard]))
        self.assertIsNone(stuck(Plant(5, [(0, "up", 1)], []), [guard]))

    def test_only_where_all_steps_are_held(self):
        plant = Plant(0, [(0, "go", 1), (1, "up", 0), (1, "low", 0)], [])
        self.assertIsNone(stuck(plant, [Guard(View({}, ["up", "low"]), {}, [["up"]])]))
        self.assertEqual(stuck(plant, [Guard(View({}, ["up", "low"]), {}, [["up", "low"]])]), (0,))
        two = [Guard(View({}, ["up"]), {}, [["up"]]), Guard(View({}, ["low"]), {}, [["low"]])]
        self.assertEqual(stuck(plant, two), (0,))

    def test_behind_shut(self):
        plant = Plant(0, [(0, "go", 0)], [])
        guard = Guard(seeing(["go"], ["go"]), {(0, "go"): 1}, [[], []])
        self.assertEqual(stuck(plant, [guard]), (0, 0))

    def test_the_least_of_several_shortest_runs(self):
        plant = Plant(0, [(0, "go", 2), (0, "go", 1), (1, "up", 0), (2, "up", 0)], [])
        self.assertEqual(stuck(plant, [Guard(View({}, ["up"]), {}, [["up"]])]), (0,))

    def test_against_the_slow_search(self):
        for source in cases(200, 13):
            plant = make_plant(source, most=7)
            guards = [make_guard(source, make_view(source), 2) for _ in range(source.randint(1, 3))]
            found = [run for run in let_runs_up_to(plant, guards, LENGTH)
                     if any(step[0] == end_of_run(plant, run) for step in plant.steps)
                     and not let_words(plant, guards, run)]
            check_shortest(self, stuck(plant, guards), found)


class LimitTest(unittest.TestCase):
    def test_5000_spots_and_one_more(self):
        rings = [ring(199), ring(25)]
        plant = lane_plant(25)
        self.assertEqual(shortest_let(plant, rings, 0), (0,))
        self.assertEqual(shortest_let(plant, rings, 25), tuple(range(26)))
        self.assertIsNone(stuck(plant, rings))
        self.assertIsNone(let_more(plant, rings[:1], rings[1:]))
        plant = lane_plant(26)
        assert_too_many(self, 5000, lambda: shortest_let(plant, rings, 0))
        assert_too_many(self, 5000, lambda: stuck(plant, rings))
        assert_too_many(self, 5000, lambda: let_more(plant, rings[:1], rings[1:]))

    def test_a_last_run_of_5000_steps(self):
        plant = lane_plant(25, [(25, "up", 25)])
        moves = {(node, "go"): (node + 1) % 199 for node in range(199)}
        one = Guard(seeing(["go"], ["up"]), moves, [["up"]] * 24 + [[]] + [["up"]] * 174)
        moves = {(node, "go"): (node + 1) % 25 for node in range(25)}
        other = Guard(seeing(["go"], ["up"]), moves, [["up"]] * 24 + [[]])
        run = shortest_let(plant, [one, other], 26)
        # Go is done 24 times modulo 199 and modulo 25, and at least 25 times.
        self.assertEqual(run, tuple(range(25)) + (25,) * 4974 + (26,))

    def test_limits_come_before_answers(self):
        plant = lane_plant(26, [(0, "hop", 26)])
        no_hop = ring(25, "go", ["hop"], ["hop"])
        assert_too_many(self, 5000, lambda: let_more(plant, [ring(199)], [no_hop]))
        self.assertEqual(let_more(plant, [ring(198)], [ring(2, "go", ["hop"], ["hop"])]), (27,))

    def test_a_stuck_run_does_not_end_the_count(self):
        # Hop leads to a state where the only step is held.
        plant = lane_plant(26, [(0, "hop", 40), (40, "up", 0)])
        guards = [ring(199), ring(25), Guard(View({}, ["up"]), {}, [["up"]])]
        assert_too_many(self, 5000, lambda: stuck(plant, guards))
        plant = lane_plant(23, [(0, "hop", 40), (40, "up", 0)])
        self.assertEqual(stuck(plant, guards), (24,))

    def test_only_let_runs_lead_to_spots(self):
        plant = lane_plant(26)
        stop = Guard(View({}, ["go"]), {}, [["go"]])
        self.assertEqual(stuck(plant, [ring(199), ring(25), stop]), ())
        self.assertIsNone(shortest_let(plant, [stop, ring(199), ring(25)], 0))

    def test_let_more_counts_what_both_let(self):
        plant, rings = lane_plant(26), [ring(199), ring(25)]
        stop = Guard(View({}, ["go"]), {}, [["go"]])
        self.assertEqual(let_more(plant, rings, [stop]), (0,))
        self.assertIsNone(let_more(plant, [stop], rings))

    def test_places_at_shut_are_places(self):
        # The lane is at 25 nodes and then at SHUT, while the rings go on.
        plant = lane_plant(0)
        self.assertIsNone(stuck(plant, [ring(199), ring(25), lane_guard(25, "go", ["go"])]))
        guards = [ring(199), ring(25), lane_guard(26, "go", ["go"])]
        assert_too_many(self, 5000, lambda: shortest_let(plant, guards, 0))


class OwnershipTest(unittest.TestCase):
    def test_arguments_are_not_changed(self):
        plant, guards, others = sample_plant(), [sample_guard()], [wide_guard(), sample_guard()]
        first_held(plant, guards, (1, 3))
        lets(plant, guards, (1, 3))
        shortest_let(plant, guards, 3)
        let_more(plant, guards, others)
        stuck(plant, others)
        self.assertEqual(plant, sample_plant())
        self.assertEqual(guards, [sample_guard()])
        self.assertEqual(others, [wide_guard(), sample_guard()])

    def test_errors_change_nothing(self):
        plant, guard = sample_plant(), sample_guard()
        for call in (lambda: first_held(plant, [guard], (0, 0)), lambda: stuck(plant, [guard, 5]),
                     lambda: shortest_let(plant, [guard], 9), lambda: let_more(plant, [guard], [])):
            with self.assertRaises(ValueError):
                call()
        self.assertEqual((plant, guard), (sample_plant(), sample_guard()))


if __name__ == "__main__":
    unittest.main()
