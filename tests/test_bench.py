"""Points [47] to [50]: the bench."""

import contextlib
import unittest

from leastguards.bench import Bench
from leastguards.errors import BadEntry, BadView, BadWord, NothingDone, TooMany
from leastguards.forced import keepable
from leastguards.plants import Plant
from leastguards.views import View, seeing
from tests.helper import (DEEP_LIST, DEEP_TUPLE, all_things, assert_refused, assert_too_many,
                          caught, looped_list, no_names, no_rows, no_views, sample_plant,
                          sample_view, wide_plant)
from tests.slow import WORDS, cases, make_plant


def lane_plant():
    """The plant lane of the examples in the document's interface."""
    return Plant(0, [(0, "go", 1), (0, "hop", 2), (1, "end", 3), (2, "end", 3)], [0, 1, 2], [3])


def sample_bench():
    """A bench with three changes, which then has the view of the examples."""
    bench = Bench(sample_plant())
    bench["go"] = "g"
    bench["up"] = "u"
    bench.hold("up")
    return bench


class Refused(Exception):
    """An error that a deed raises."""


class ViewTest(unittest.TestCase):
    def test_a_new_bench(self):
        bench = Bench(sample_plant())
        self.assertEqual(bench.chosen, View())
        self.assertIs(type(bench.chosen), View)
        self.assertIsNone(bench["go"])
        self.assertEqual(len(bench), 0)

    def test_seeing(self):
        bench = Bench(sample_plant())
        bench["go"] = "g"
        bench["low"] = "g"
        bench["halt"] = "h"
        self.assertEqual((bench["go"], bench["low"], bench["up"]), ("g", "g", None))
        self.assertEqual(bench.chosen, View({"go": "g", "low": "g", "halt": "h"}))
        bench["go"] = "x"
        bench["low"] = None
        bench["up"] = None
        self.assertEqual(bench.chosen, View({"go": "x", "halt": "h"}))

    def test_holding(self):
        bench = Bench(sample_plant())
        self.assertIsNone(bench.hold("up"))
        self.assertIsNone(bench.hold("halt"))
        bench.hold("up")
        self.assertEqual(bench.chosen, View({}, ["halt", "up"]))
        self.assertIsNone(bench.free("up"))
        self.assertEqual(bench.chosen, View({}, ["halt"]))
        self.assertIsNone(bench.free("go"))
        bench.free("halt")
        self.assertEqual(bench.chosen, View())

    def test_holding_and_seeing_do_not_touch_each_other(self):
        bench = sample_bench()
        bench["up"] = None
        self.assertEqual(bench.chosen, View({"go": "g"}, ["up"]))
        bench.free("up")
        bench.hold("go")
        bench.free("go")
        self.assertEqual(bench.chosen, View({"go": "g"}))

    def test_following(self):
        bench, view = sample_bench(), seeing(["low"], ["go"])
        self.assertIsNone(bench.follow(view))
        self.assertEqual(bench.chosen, view)
        view["low"] = "l"
        view.hold_just([])
        self.assertEqual(bench.chosen, seeing(["low"], ["go"]))
        bench["low"] = "x"
        bench.hold("up")
        self.assertEqual(view, View({"low": "l"}))

    def test_chosen_has_a_setter(self):
        bench, view = sample_bench(), seeing(["low"], ["go"])
        bench.chosen = view
        self.assertEqual(bench.chosen, view)
        view["low"] = "l"
        self.assertEqual(bench.chosen, seeing(["low"], ["go"]))
        self.assertEqual(len(bench), 4)

    def test_chosen_is_a_copy(self):
        bench = sample_bench()
        view = bench.chosen
        view["go"] = None
        view.hold_just(["go"])
        view |= {"low": "l"}
        self.assertEqual(bench.chosen, sample_view())
        bench["go"] = "x"
        self.assertEqual(view, View({"up": "u", "low": "l"}, ["go"]))

    def test_a_view_may_be_changed_and_set_again(self):
        bench = sample_bench()
        bench.chosen |= {"low": "l"}
        self.assertEqual(bench.chosen, View({"go": "g", "up": "u", "low": "l"}, ["up"]))
        bench.chosen -= ["go"]
        self.assertEqual(bench.chosen, View({"up": "u", "low": "l"}, ["up"]))
        self.assertEqual(len(bench), 5)

    def test_two_benches_of_one_plant(self):
        plant = sample_plant()
        one, other = Bench(plant), Bench(plant)
        one["go"] = "g"
        one.hold("up")
        self.assertEqual((other.chosen, len(other)), (View(), 0))

    def test_keeps(self):
        bench = Bench(lane_plant())
        self.assertIs(bench.keeps(), False)
        bench.hold("end")
        self.assertIs(bench.keeps(), False)
        bench["go"] = "g"
        self.assertIs(bench.keeps(), True)
        bench["hop"] = "g"
        self.assertIs(bench.keeps(), False)
        bench["hop"] = "h"
        self.assertIs(bench.keeps(), True)
        self.assertEqual(len(bench), 4)

    def test_keeps_by_the_words_of_the_document(self):
        for source in cases(60, 80):
            plant = make_plant(source, 4, 9)
            bench = Bench(plant)
            for _ in range(8):
                do_any(source, bench)
                self.assertIs(bench.keeps(), keepable(plant, [bench.chosen]))

    def test_keeps_may_raise_too_many(self):
        bench = Bench(wide_plant(20))
        self.assertIs(bench.keeps(), True)
        bench["go"] = "go"
        assert_too_many(self, 2000, bench.keeps)
        self.assertEqual((bench.chosen, len(bench)), (seeing(["go"]), 1))
        bench.hold("hop")
        self.assertIs(bench.keeps(), True)

    def test_a_bench_is_not_iterated_over(self):
        with self.assertRaises(TypeError):
            list(sample_bench())


def do_any(source, bench):
    """One change of any kind."""
    word = source.choice(WORDS + ["halt"])
    kind = source.randrange(5)
    if kind == 0:
        bench[word] = source.choice(["a", "b", None])
    elif kind == 1:
        bench.hold(word)
    elif kind == 2:
        bench.free(word)
    elif kind == 3:
        bench.follow(View({word: "a"}, [source.choice(WORDS)]))
    else:
        bench.chosen = View({"up": "b"}, [word])


class RefusedTest(unittest.TestCase):
    def check_refused(self, kind, thing, call):
        """The error is raised, and neither the view nor the changes are touched."""
        bench = sample_bench()
        assert_refused(self, kind, "value", thing, lambda: call(bench))
        self.assertEqual((bench.chosen, len(bench)), (sample_view(), 3))

    def test_words(self):
        for thing in no_names():
            self.check_refused(BadWord, thing, lambda bench: bench[thing])
            self.check_refused(BadWord, thing, lambda bench: assign(bench, thing, "g"))
            self.check_refused(BadWord, thing, lambda bench: assign(bench, thing, "G"))
            self.check_refused(BadWord, thing, lambda bench: bench.hold(thing))
            self.check_refused(BadWord, thing, lambda bench: bench.free(thing))

    def test_sights(self):
        for thing in no_names():
            if thing is not None:
                self.check_refused(BadView, thing, lambda bench: assign(bench, "go", thing))

    def test_views(self):
        for thing in no_views():
            self.check_refused(BadView, thing, lambda bench: bench.follow(thing))
            self.check_refused(BadView, thing, lambda bench: set_chosen(bench, thing))

    def test_undo_after_an_error(self):
        bench = sample_bench()
        for call in (lambda: bench.hold("UP"), lambda: bench.free(5), lambda: bench.follow(None),
                     lambda: assign(bench, "go", 5), lambda: assign(bench, None, "g"),
                     lambda: set_chosen(bench, {"go": "g"}), lambda: bench.tried(None)):
            self.assertIsNotNone(caught(call))
        bench.undo()
        self.assertEqual(bench.chosen, View({"go": "g", "up": "u"}))


def assign(bench, word, sight):
    bench[word] = sight


def set_chosen(bench, view):
    bench.chosen = view


class UndoTest(unittest.TestCase):
    def test_nothing_done(self):
        bench = Bench(sample_plant())
        self.assertIs(type(caught(bench.undo)), NothingDone)
        bench.hold("up")
        bench.undo()
        self.assertIs(type(caught(bench.undo)), NothingDone)
        self.assertEqual((bench.chosen, len(bench)), (View(), 0))

    def test_undo_returns_none(self):
        self.assertIsNone(sample_bench().undo())

    def test_each_change_counts_also_if_the_view_stays(self):
        bench = sample_bench()
        bench["go"] = "g"
        bench["low"] = None
        bench.hold("up")
        bench.free("low")
        bench.follow(bench.chosen)
        bench.chosen = sample_view()
        self.assertEqual((bench.chosen, len(bench)), (sample_view(), 9))
        for left in (8, 7, 6, 5, 4, 3):
            bench.undo()
            self.assertEqual((bench.chosen, len(bench)), (sample_view(), left))
        bench.undo()
        self.assertEqual((bench.chosen, len(bench)), (View({"go": "g", "up": "u"}), 2))

    def test_what_is_asked_is_no_change(self):
        bench = sample_bench()
        self.assertEqual((bench["go"], bench.keeps(), len(bench.chosen)), ("g", False, 2))
        bench.tried([("hold", "go")])
        bench.trying(lambda same: same.hold("go"))
        self.assertEqual(len(bench), 3)

    def test_changes_after_undo(self):
        bench = sample_bench()
        bench.undo()
        bench.undo()
        bench["low"] = "l"
        self.assertEqual((bench.chosen, len(bench)), (View({"go": "g", "low": "l"}), 2))
        bench.undo()
        self.assertEqual(bench.chosen, View({"go": "g"}))
        bench.undo()
        self.assertEqual((bench.chosen, len(bench)), (View(), 0))

    def test_many_changes(self):
        for source in cases(40, 81):
            bench, views = Bench(sample_plant()), [View()]
            for _ in range(30):
                if source.random() < 0.35 and len(views) > 1:
                    views.pop()
                    bench.undo()
                else:
                    do_any(source, bench)
                    views.append(bench.chosen)
                self.assertEqual((bench.chosen, len(bench)), (views[-1], len(views) - 1))
            while len(views) > 1:
                views.pop()
                bench.undo()
                self.assertEqual(bench.chosen, views[-1])


class TrialTest(unittest.TestCase):
    def check_untouched(self, bench):
        """The bench is as sample_bench makes it, its changes included."""
        self.assertEqual((bench.chosen, len(bench)), (sample_view(), 3))
        for view in (View({"go": "g", "up": "u"}), View({"go": "g"}), View()):
            bench.undo()
            self.assertEqual(bench.chosen, view)
        self.assertEqual(len(bench), 0)

    def test_the_block_gets_the_bench_itself(self):
        bench = sample_bench()
        with bench.trial() as same:
            self.assertIs(same, bench)

    def test_changes_are_taken_back(self):
        bench = sample_bench()
        with bench.trial() as same:
            same["go"] = None
            same.hold("low")
            bench.free("up")
            bench.follow(View({"low": "l"}))
            bench.chosen = View({"low": "x"})
            self.assertEqual((bench.chosen, len(bench)), (View({"low": "x"}), 8))
        self.check_untouched(bench)

    def test_a_block_without_changes(self):
        bench = sample_bench()
        with bench.trial():
            pass
        self.check_untouched(bench)

    def test_undo_in_the_block(self):
        bench = sample_bench()
        with bench.trial():
            bench.undo()
            bench.undo()
            bench["low"] = "l"
            self.assertEqual((bench.chosen, len(bench)), (View({"go": "g", "low": "l"}), 2))
        self.check_untouched(bench)
        bench = sample_bench()
        with bench.trial():
            for _ in range(3):
                bench.undo()
            self.assertIs(type(caught(bench.undo)), NothingDone)
        self.check_untouched(bench)

    def test_exceptions_go_on(self):
        for error in (Refused("no"), KeyError("go"), BadWord(5), KeyboardInterrupt(), SystemExit()):
            bench, told = sample_bench(), None
            try:
                with bench.trial():
                    bench.hold("low")
                    bench.undo()
                    bench.undo()
                    raise error
            except BaseException as same:
                told = same
            self.assertIs(told, error)
            self.check_untouched(bench)

    def test_leaving_by_return_and_break(self):
        bench = sample_bench()

        def leave():
            with bench.trial():
                bench.hold("low")
                return len(bench)

        self.assertEqual(leave(), 4)
        self.check_untouched(bench)
        bench = sample_bench()
        for word in ("low", "go"):
            with bench.trial():
                bench.hold(word)
                if word == "low":
                    continue
                break
        self.check_untouched(bench)

    def test_nested_trials(self):
        bench = sample_bench()
        with bench.trial() as one:
            one.hold("low")
            with one.trial() as other:
                self.assertIs(other, bench)
                other.undo()
                other.undo()
                other["go"] = "x"
            self.assertEqual((bench.chosen, len(bench)),
                             (View({"go": "g", "up": "u"}, ["low", "up"]), 4))
            with bench.trial(), bench.trial():
                bench.follow(View())
            one.undo()
            self.assertEqual((bench.chosen, len(bench)), (sample_view(), 3))
        self.check_untouched(bench)

    def test_nested_trials_with_an_exception(self):
        bench = sample_bench()
        with bench.trial():
            bench.hold("low")
            with self.assertRaises(Refused):
                with bench.trial():
                    bench.undo()
                    bench.undo()
                    raise Refused()
            self.assertEqual((len(bench), bench.chosen.holds), (4, ["low", "up"]))
        self.check_untouched(bench)

    def test_before_the_block_and_not_before_the_call(self):
        bench = Bench(sample_plant())
        trial = bench.trial()
        bench["go"] = "g"
        bench["up"] = "u"
        bench.hold("up")
        with trial as same:
            self.assertIs(same, bench)
            same.undo()
        self.check_untouched(bench)

    def test_one_trial_after_the_other(self):
        bench = sample_bench()
        for word in ("low", "go", "halt"):
            with bench.trial():
                bench.hold(word)
                self.assertEqual(bench.chosen.holds, sorted([word, "up"]))
        self.check_untouched(bench)

    def test_changes_after_a_trial(self):
        bench = sample_bench()
        with bench.trial():
            bench.hold("low")
        bench.hold("go")
        self.assertEqual((bench.chosen.holds, len(bench)), (["go", "up"], 4))
        bench.undo()
        self.check_untouched(bench)

    def test_in_an_exit_stack(self):
        bench = sample_bench()
        with contextlib.ExitStack() as stack:
            for word in ("low", "go"):
                stack.enter_context(bench.trial()).hold(word)
        self.check_untouched(bench)

    def test_trials_of_two_benches(self):
        one, other = sample_bench(), sample_bench()
        with one.trial(), other.trial():
            one.undo()
            other.hold("low")
        self.check_untouched(one)
        self.check_untouched(other)

    def test_an_empty_bench(self):
        bench = Bench(sample_plant())
        with bench.trial() as same:
            self.assertIs(same, bench)
            same.hold("up")
        self.assertEqual((bench.chosen, len(bench)), (View(), 0))


class TryingTest(unittest.TestCase):
    def test_what_the_deed_returns(self):
        bench = sample_bench()
        for thing in all_things():
            self.assertIs(bench.trying(lambda same: thing), thing)

    def test_the_deed_is_called_once_with_the_bench(self):
        bench, calls = sample_bench(), []
        self.assertIsNone(bench.trying(calls.append))
        self.assertEqual(len(calls), 1)
        self.assertIs(calls[0], bench)

    def test_changes_are_taken_back(self):
        bench = sample_bench()

        def deed(same):
            same.undo()
            same["low"] = "l"
            same.hold("go")
            return (same.chosen, len(same))

        self.assertEqual(bench.trying(deed), (View({"go": "g", "up": "u", "low": "l"}, ["go"]), 4))
        self.assertEqual((bench.chosen, len(bench)), (sample_view(), 3))
        bench.undo()
        self.assertEqual(bench.chosen, View({"go": "g", "up": "u"}))

    def test_exceptions_go_on(self):
        for error in (Refused("no"), NothingDone(), TooMany(2000), ZeroDivisionError()):
            bench = sample_bench()

            def deed(same):
                same.hold("low")
                same.undo()
                same.undo()
                raise error

            self.assertIs(caught(lambda: bench.trying(deed)), error)
            self.assertEqual((bench.chosen, len(bench)), (sample_view(), 3))

    def test_deeds_in_deeds(self):
        bench = sample_bench()

        def deed(same):
            same.hold("low")
            inner = same.trying(lambda other: (other.hold("go"), other.chosen.holds)[1])
            return inner, same.chosen.holds, same.tried([("free", "up")])

        self.assertEqual(bench.trying(deed), (["go", "low", "up"], ["low", "up"], [False]))
        self.assertEqual((bench.chosen, len(bench)), (sample_view(), 3))

    def test_methods_of_the_class_are_deeds(self):
        bench = sample_bench()
        self.assertIs(bench.trying(Bench.keeps), False)
        self.assertIsNone(bench.trying(Bench.undo))
        self.assertEqual((bench.chosen, len(bench)), (sample_view(), 3))


class TriedTest(unittest.TestCase):
    def test_the_example_of_the_interface(self):
        bench = Bench(sample_plant())
        bench.hold("up")
        told = bench.tried([("see", "go", "g"), ("see", "low", "l"), ("free", "up")])
        self.assertEqual(told, [False, False, False])
        self.assertEqual(len(bench), 1)
        self.assertIs(type(told), list)

    def test_one_after_the_other(self):
        bench = Bench(lane_plant())
        changes = [("see", "go", "g"), ("hold", "end"), ("see", "hop", "g"), ("see", "go", None),
                   ("see", "hop", None), ("see", "hop", "h"), ("free", "end"), ("hold", "end")]
        told = [False, True, False, True, False, True, False, True]
        self.assertEqual(bench.tried(changes), told)
        self.assertEqual(bench.tried(tuple(changes)), told)
        for flag in bench.tried(changes):
            self.assertIs(type(flag), bool)
        self.assertEqual((bench.chosen, len(bench)), (View(), 0))

    def test_it_begins_with_the_view_of_the_bench(self):
        bench = Bench(lane_plant())
        bench.hold("end")
        self.assertEqual(bench.tried([("see", "go", "g")]), [True])
        self.assertEqual(bench.tried([("see", "low", "g"), ("see", "go", "g")]), [False, True])
        bench["go"] = "g"
        self.assertEqual(bench.tried([("hold", "low"), ("free", "end")]), [True, False])
        self.assertEqual((bench.chosen, len(bench)), (View({"go": "g"}, ["end"]), 2))

    def test_empty_rows(self):
        bench = sample_bench()
        for changes in ([], ()):
            told = bench.tried(changes)
            self.assertEqual(told, [])
            self.assertIs(type(told), list)

    def test_no_rows(self):
        for thing in no_rows() + [{("hold", "up"): True}]:
            bench = sample_bench()
            assert_refused(self, BadEntry, "value", thing, lambda: bench.tried(thing))
            self.assertEqual((bench.chosen, len(bench)), (sample_view(), 3))

    def test_items_that_are_no_changes(self):
        things = [("see", "go"), ("see", "go", "g", "g"), ("see",), ("hold",), ("free",), (), "hold",
                  ("hold", "up", None), ("free", "up", "up"), ("hold", "up", "u"), ("see", "Go", "g"),
                  ("see", "go", "G"), ("see", "go", ""), ("see", None, "g"), ("hold", None),
                  ("free", ""), ("hold", "abcdefghijklm"), ("Hold", "up"), ("see", "up", 5),
                  ("look", "up", "u"), ("let", "up"), (None, "up"), ("up", "hold"), ("free", "UP"),
                  ["hold", "up"], ["see", "go", "g"], ("hold", ["up"]), ("see", "go", ["g"]),
                  (("hold", "up"),), ("follow", "up"), ("see", "go", False), ("hold", DEEP_TUPLE),
                  (DEEP_LIST, "up"), ("see", "go", DEEP_TUPLE), ("see", DEEP_LIST, None),
                  (looped_list(), "up"), ("undo", "up"), ("keeps", "go", "g")]
        for thing in things + all_things():
            bench = sample_bench()
            for changes in ([thing], [("hold", "low"), thing, None], (("free", "up"), thing)):
                assert_refused(self, BadEntry, "value", thing, lambda: bench.tried(changes))
            self.assertEqual((bench.chosen, len(bench)), (sample_view(), 3))

    def test_all_items_are_checked_before_anything_is_changed(self):
        bench = Bench(wide_plant(20))
        changes = [("see", "go", "g"), ("hold", "UP")]
        assert_refused(self, BadEntry, "value", changes[1], lambda: bench.tried(changes))
        assert_too_many(self, 2000, lambda: bench.tried(changes[:1]))

    def test_too_many(self):
        bench = Bench(wide_plant(20))
        bench.hold("low")
        changes = [("hold", "hop"), ("see", "go", "g"), ("free", "hop"), ("see", "go", None)]
        assert_too_many(self, 2000, lambda: bench.tried(changes))
        self.assertEqual((bench.chosen, len(bench)), (View({}, ["low"]), 1))
        self.assertEqual(bench.tried(changes[:2]), [True, True])
        bench.undo()
        self.assertEqual((bench.chosen, len(bench)), (View(), 0))

    def test_the_row_is_not_changed(self):
        changes = [("see", "go", "g"), ("hold", "up")]
        Bench(sample_plant()).tried(changes)
        self.assertEqual(changes, [("see", "go", "g"), ("hold", "up")])

    def test_against_keeps(self):
        for source in cases(60, 82):
            bench = Bench(make_plant(source, 4, 9))
            for _ in range(3):
                do_any(source, bench)
            view, changes = bench.chosen, []
            for _ in range(6):
                word = source.choice(WORDS)
                changes.append(source.choice([("see", word, "a"), ("see", word, None),
                                              ("hold", word), ("free", word)]))
            told = bench.tried(changes)
            self.assertEqual((bench.chosen, len(bench)), (view, 3))
            self.assertEqual(told, [keeps_after(bench, changes[:at + 1]) for at in range(6)])


def keeps_after(bench, changes):
    """What keeps returns after all of the changes, done by the methods of the bench."""
    with bench.trial():
        for kind, word, *sight in changes:
            if kind == "see":
                bench[word] = sight[0]
            elif kind == "hold":
                bench.hold(word)
            else:
                bench.free(word)
        return bench.keeps()


if __name__ == "__main__":
    unittest.main()
