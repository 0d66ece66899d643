"""Points [2] to [6] and [11] to [16], as far as they speak of views."""

import unittest

from leastguards.errors import BadView, BadWord
from leastguards.plants import Plant
from leastguards.views import View, seeing
from tests.helper import (assert_refused, no_dicts, no_names, no_rows, plain_things,
                          rows_and_dicts, sample_view)


def wrong_sights():
    """Dicts in which a key or a value is not a name."""
    tables = [{"go": "g", "up": thing} for thing in no_names()]
    keys = ["", "Go", "abcdefghijklm", "g1", 0, 1, True, None, b"go", ("go",), frozenset()]
    return tables + [{"go": "g", key: "u"} for key in keys] + [{"": ""}, {("go",): "go"}]


def wrong_tables():
    """Objects that are not dicts of names to names."""
    return no_dicts() + wrong_sights()


def check_words_refused(case, call):
    """The call refuses what is no row of names, with the errors of [11] for holds."""
    for thing in no_rows():
        assert_refused(case, BadView, "value", thing, lambda: call(thing))
    for thing in no_names():
        assert_refused(case, BadWord, "value", thing, lambda: call([thing]))
        assert_refused(case, BadWord, "value", thing, lambda: call(("go", thing, "", None)))


class MakingTest(unittest.TestCase):
    def test_an_empty_view(self):
        for view in (View(), View(None), View({}), View(None, ()), View({}, []), View(holds=())):
            self.assertEqual((view.words, view.sights, view.holds), ([], {}, []))

    def test_words_sights_and_holds(self):
        view = View({"up": "u", "go": "g", "low": "g"}, ["up", "halt", "aa", "up"])
        self.assertEqual(view.words, ["go", "low", "up"])
        self.assertEqual(view.sights, {"go": "g", "low": "g", "up": "u"})
        self.assertEqual(view.holds, ["aa", "halt", "up"])

    def test_arguments_by_name(self):
        view = View(holds=("up",), sights={"go": "g", "up": "u"})
        self.assertEqual(view, sample_view())

    def test_names_of_one_and_of_twelve_characters(self):
        view = View({"a": "z", "abcdefghijkl": "zzzzzzzzzzzz"}, ("b", "mnopqrstuvwx"))
        self.assertEqual(view["abcdefghijkl"], "zzzzzzzzzzzz")
        self.assertEqual(view.holds, ["b", "mnopqrstuvwx"])

    def test_wrong_sights(self):
        for thing in wrong_tables():
            if thing is None:
                continue
            assert_refused(self, BadView, "value", thing, lambda: View(thing))

    def test_wrong_holds(self):
        check_words_refused(self, lambda thing: View({"go": "g"}, thing))
        check_words_refused(self, lambda thing: View(holds=thing))

    def test_sights_are_checked_before_holds(self):
        wrong = {"go": 1}
        assert_refused(self, BadView, "value", wrong, lambda: View(wrong, None))
        assert_refused(self, BadView, "value", wrong, lambda: View(wrong, [None]))

    def test_kinds_of_the_properties(self):
        view = View({"go": "g"}, ("up",))
        self.assertIs(type(view.words), list)
        self.assertIs(type(view.sights), dict)
        self.assertIs(type(view.holds), list)


class OwnershipTest(unittest.TestCase):
    def test_told_lists_and_dicts_are_new(self):
        view = sample_view()
        for name in ("words", "sights", "holds"):
            self.assertIsNot(getattr(view, name), getattr(view, name))
            getattr(view, name).clear()
        view.sights["low"] = "l"
        view.holds.append("low")
        self.assertEqual(view, sample_view())
        self.assertEqual(view.words, ["go", "up"])

    def test_later_changes_of_the_arguments(self):
        sights, holds = {"go": "g", "up": "u"}, ["up"]
        view = View(sights, holds)
        sights["low"] = "l"
        del sights["go"]
        holds.clear()
        self.assertEqual(view, sample_view())
        words = ["low"]
        view.holds = words
        words.append("go")
        self.assertEqual(view.holds, ["low"])
        words = ["up"]
        view.hold_just(words)
        words.append("go")
        self.assertEqual(view.holds, ["up"])

    def test_changes_of_the_view_do_not_reach_the_arguments(self):
        sights, holds = {"go": "g", "up": "u"}, ["up"]
        view = View(sights, holds)
        view["low"] = "l"
        view["go"] = None
        view -= ["up"]
        view |= {"aa": "a"}
        view.holds = ["low", "go"]
        self.assertEqual((sights, holds), ({"go": "g", "up": "u"}, ["up"]))

    def test_later_changes_of_joined_dicts(self):
        more = {"low": "l"}
        joined, joined_left, view = sample_view() | more, more | sample_view(), sample_view()
        view |= more
        empty = View()
        empty |= more
        more["low"] = "x"
        more["new"] = "n"
        for other in (joined, joined_left, view):
            self.assertEqual(other.sights, {"go": "g", "up": "u", "low": "l"})
        self.assertEqual(empty.sights, {"low": "l"})
        empty["low"] = "y"
        self.assertEqual(more, {"low": "x", "new": "n"})

    def test_arguments_are_not_changed(self):
        sights, holds, more, words = {"up": "u", "go": "g"}, ["up", "up", "aa"], {"b": "c"}, ["up"]
        view = View(sights, holds)
        view | more
        more | view
        view - words
        view |= more
        view -= words
        view.hold_just(holds)
        seeing(holds, holds)
        self.assertEqual(list(sights.items()), [("up", "u"), ("go", "g")])
        self.assertEqual((holds, more, words), (["up", "up", "aa"], {"b": "c"}, ["up"]))


class HoldsTest(unittest.TestCase):
    def test_the_setter(self):
        view = sample_view()
        view.holds = ("low", "go", "low")
        self.assertEqual(view, View({"go": "g", "up": "u"}, ["go", "low"]))
        view.holds = []
        self.assertEqual(view.holds, [])

    def test_hold_just(self):
        view = sample_view()
        self.assertIsNone(view.hold_just(["low", "go", "low"]))
        self.assertEqual(view, View({"go": "g", "up": "u"}, ["go", "low"]))
        self.assertIsNone(view.hold_just(()))
        self.assertEqual(view.holds, [])

    def test_errors_leave_the_view_as_it_is(self):
        view = sample_view()

        def assign(thing):
            view.holds = thing

        check_words_refused(self, assign)
        check_words_refused(self, view.hold_just)
        self.assertEqual(view, sample_view())


class ItemsTest(unittest.TestCase):
    def test_the_sight_of_a_word(self):
        view = sample_view()
        self.assertEqual((view["go"], view["up"]), ("g", "u"))
        self.assertIsNone(view["low"])
        self.assertIsNone(view["g"])

    def test_a_sight_is_changed(self):
        view = sample_view()
        view["go"] = "u"
        view["low"] = "l"
        self.assertEqual(view, View({"go": "u", "up": "u", "low": "l"}, ["up"]))

    def test_a_word_becomes_unseen(self):
        view = sample_view()
        view["up"] = None
        self.assertEqual(view, View({"go": "g"}, ["up"]))
        self.assertIsNone(view["up"])
        view["up"] = None
        view["low"] = None
        self.assertEqual(view, View({"go": "g"}, ["up"]))

    def test_words_that_are_no_names(self):
        view = sample_view()

        def assign(thing, sight):
            view[thing] = sight

        for thing in no_names():
            assert_refused(self, BadWord, "value", thing, lambda: view[thing])
            for sight in ("g", None, 5, []):
                assert_refused(self, BadWord, "value", thing, lambda: assign(thing, sight))
        self.assertEqual(view, sample_view())

    def test_slices_are_no_names(self):
        with self.assertRaises(BadWord):
            sample_view()[:]

    def test_sights_that_are_no_names(self):
        view = sample_view()

        def assign(word, thing):
            view[word] = thing

        for thing in no_names():
            if thing is None:
                continue
            for word in ("go", "low"):
                assert_refused(self, BadView, "value", thing, lambda: assign(word, thing))
        self.assertEqual(view, sample_view())

    def test_in(self):
        view = sample_view()
        self.assertIs("go" in view, True)
        self.assertIs("up" in view, True)
        self.assertIs("low" in view, False)
        self.assertIs("g" in view, False)
        self.assertIs("go" not in view, False)
        for thing in no_names():
            self.assertIs(thing in view, False)

    def test_held_words_are_not_in_the_view(self):
        self.assertIs("up" in View({}, ["up"]), False)

    def test_len(self):
        view = sample_view()
        self.assertEqual((len(View()), len(view), len(View({}, ["up"]))), (0, 2, 0))
        view["low"] = "g"
        self.assertEqual(len(view), 3)
        view["go"] = None
        self.assertEqual(len(view), 2)

    def test_a_view_is_not_iterated_over(self):
        with self.assertRaises(TypeError):
            iter(sample_view())
        with self.assertRaises(TypeError):
            list(View())


class CopyTest(unittest.TestCase):
    def test_a_copy_is_new_and_equal(self):
        view = sample_view()
        twin = view.copy()
        self.assertIs(type(twin), View)
        self.assertIsNot(twin, view)
        self.assertEqual(twin, view)

    def test_a_copy_does_not_change_with_the_view(self):
        view = sample_view()
        twin = view.copy()
        view["low"] = "l"
        view.holds = []
        self.assertEqual(twin, sample_view())
        twin = view.copy()
        view |= {"aa": "a"}
        view -= ["go"]
        self.assertEqual(twin, View({"go": "g", "up": "u", "low": "l"}))

    def test_the_view_does_not_change_with_a_copy(self):
        view = sample_view()
        twin = view.copy()
        twin["go"] = None
        twin.hold_just(["low"])
        twin |= {"aa": "a"}
        self.assertEqual(view, sample_view())


class EqualityTest(unittest.TestCase):
    def test_equal_views(self):
        one = View({"go": "g", "up": "u"}, ["up", "go", "up"])
        other = View({"up": "u", "go": "g"}, ("go", "up"))
        self.assertIs(one == other, True)
        self.assertIs(one != other, False)

    def test_each_part_counts(self):
        view = sample_view()
        others = [View(), View({"go": "g", "up": "u"}), View({"go": "g"}, ["up"]),
                  View({"go": "g", "up": "g"}, ["up"]), View({"go": "g", "low": "u"}, ["up"]),
                  View({"go": "g", "up": "u"}, ["go"]), View({"go": "g", "up": "u"}, ["up", "go"])]
        for other in others:
            self.assertIs(view == other, False)
            self.assertIs(other == view, False)
            self.assertIs(view != other, True)

    def test_any_other_object_is_not_equal(self):
        view = sample_view()
        for thing in ["go", 0, {"go": "g", "up": "u"}] + plain_things() + rows_and_dicts():
            if isinstance(thing, View):
                continue
            self.assertIs(view == thing, False)
            self.assertIs(view != thing, True)
            self.assertIs(thing == view, False)
        self.assertIs(View() == {}, False)
        self.assertIs(View() == Plant(0, [(0, "go", 0)], []), False)

    def test_an_object_that_calls_itself_equal_to_all_is_not_equal(self):
        class Friend:
            def __eq__(self, other):
                return True

        self.assertIs(View() == Friend(), False)

    def test_views_have_no_order(self):
        for compare in (lambda a, b: a < b, lambda a, b: a <= b,
                        lambda a, b: a > b, lambda a, b: a >= b):
            with self.assertRaises(TypeError):
                compare(sample_view(), sample_view())


class JoinTest(unittest.TestCase):
    def test_the_examples_of_the_interface(self):
        view = sample_view()
        joined = view | {"low": "g", "up": "x"}
        self.assertEqual(joined.sights, {"go": "g", "up": "u", "low": "g"})
        self.assertEqual(({"up": "x"} | view)["up"], "x")

    def test_the_left_operand_counts(self):
        view, more = View({"go": "g", "up": "u"}, ["up", "low"]), {"up": "x", "low": "l"}
        self.assertEqual(view | more, View({"go": "g", "up": "u", "low": "l"}, ["low", "up"]))
        self.assertEqual(more | view, View({"go": "g", "up": "x", "low": "l"}, ["low", "up"]))
        self.assertEqual(view, View({"go": "g", "up": "u"}, ["up", "low"]))
        self.assertEqual(more, {"up": "x", "low": "l"})

    def test_an_empty_operand(self):
        view = sample_view()
        for joined in (view | {}, {} | view):
            self.assertEqual(joined, view)
            self.assertIsNot(joined, view)
            self.assertIs(type(joined), View)
        self.assertEqual(View() | {"go": "g"}, View({"go": "g"}))
        self.assertEqual({"go": "g"} | View(), View({"go": "g"}))

    def test_the_result_does_not_change_with_the_view(self):
        view = sample_view()
        joined, left = view | {}, {} | view
        view["go"] = "x"
        view.holds = []
        self.assertEqual(joined, sample_view())
        self.assertEqual(left, sample_view())
        joined["aa"] = "a"
        self.assertIs("aa" in view, False)

    def test_operands_that_are_no_dicts_of_names(self):
        view = sample_view()
        for thing in wrong_tables():
            assert_refused(self, BadView, "value", thing, lambda: view | thing)
            # A view on the left is the one that is asked, and refuses its right operand.
            refused = view if isinstance(thing, View) else thing
            assert_refused(self, BadView, "value", refused, lambda: thing | view)
        self.assertEqual(view, sample_view())

    def test_another_view_is_no_operand(self):
        view, other = sample_view(), View({"low": "l"})
        assert_refused(self, BadView, "value", other, lambda: view | other)
        assert_refused(self, BadView, "value", view, lambda: view | view)


class JoinInPlaceTest(unittest.TestCase):
    def test_only_unseen_words_are_added(self):
        view = same = sample_view()
        view |= {"up": "x", "low": "l"}
        self.assertIs(view, same)
        self.assertEqual(view, View({"go": "g", "up": "u", "low": "l"}, ["up"]))

    def test_an_empty_dict_changes_nothing(self):
        view = same = sample_view()
        view |= {}
        self.assertIs(view, same)
        self.assertEqual(view, sample_view())

    def test_errors_leave_the_view_as_it_is(self):
        view = same = sample_view()

        def join(thing):
            nonlocal view
            view |= thing

        for thing in wrong_tables() + [View({"low": "l"}), view, {"aa": "a", "low": None}]:
            assert_refused(self, BadView, "value", thing, lambda: join(thing))
            self.assertIs(view, same)
        self.assertEqual(view, sample_view())


class TakeAwayTest(unittest.TestCase):
    def test_the_example_of_the_interface(self):
        self.assertEqual((sample_view() - ["go"]).words, ["up"])

    def test_words_become_unseen_and_held_words_stay(self):
        view = sample_view()
        self.assertEqual(view - ["up"], View({"go": "g"}, ["up"]))
        self.assertEqual(view - ("up", "go", "up"), View({}, ["up"]))
        self.assertEqual(view, sample_view())

    def test_unseen_words_are_ignored(self):
        view = sample_view()
        self.assertEqual(view - ["low", "g", "up", "u"], View({"go": "g"}, ["up"]))

    def test_an_empty_row(self):
        view = sample_view()
        less = view - []
        self.assertEqual(less, view)
        self.assertIsNot(less, view)
        self.assertIs(type(less), View)
        less["go"] = None
        self.assertEqual(view, sample_view())

    def test_errors(self):
        view = sample_view()
        check_words_refused(self, lambda thing: view - thing)
        other = View({"go": "g"})
        assert_refused(self, BadView, "value", other, lambda: view - other)
        self.assertEqual(view, sample_view())


class TakeAwayInPlaceTest(unittest.TestCase):
    def test_words_become_unseen(self):
        view = same = sample_view()
        view -= ("up", "low")
        self.assertIs(view, same)
        self.assertEqual(view, View({"go": "g"}, ["up"]))
        view -= []
        self.assertEqual(view, View({"go": "g"}, ["up"]))
        self.assertIs(view, same)

    def test_errors_leave_the_view_as_it_is(self):
        view = same = sample_view()

        def take(thing):
            nonlocal view
            view -= thing

        check_words_refused(self, take)
        self.assertIs(view, same)
        self.assertEqual(view, sample_view())


class SeeingTest(unittest.TestCase):
    def test_each_word_is_its_own_sight(self):
        view = seeing(["up", "go", "up"], ("low", "go", "low"))
        self.assertIs(type(view), View)
        self.assertEqual(view, View({"go": "go", "up": "up"}, ["go", "low"]))

    def test_holds_is_empty_if_not_given(self):
        self.assertEqual(seeing(("go",)), View({"go": "go"}))
        self.assertEqual(seeing([]), View())

    def test_arguments_by_name(self):
        self.assertEqual(seeing(holds=["up"], words=["go"]), View({"go": "go"}, ["up"]))

    def test_wrong_words(self):
        check_words_refused(self, seeing)

    def test_wrong_holds(self):
        check_words_refused(self, lambda thing: seeing(["go"], thing))

    def test_words_are_checked_before_holds(self):
        assert_refused(self, BadView, "value", "go", lambda: seeing("go", None))
        assert_refused(self, BadWord, "value", "", lambda: seeing(["go", ""], None))

    def test_later_changes_of_the_arguments(self):
        words, holds = ["go"], ["up"]
        view = seeing(words, holds)
        words.append("low")
        holds.append("low")
        self.assertEqual(view, View({"go": "go"}, ["up"]))

    def test_each_call_gives_a_new_view(self):
        seeing(["go"])["up"] = "u"
        self.assertEqual(seeing(["go"]), View({"go": "go"}))


if __name__ == "__main__":
    unittest.main()
