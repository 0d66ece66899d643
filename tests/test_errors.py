"""Points [5] and [6]: the errors, their bases and their attributes."""

import unittest

from leastguards import errors
from tests.helper import DEEP_LIST, DEEP_TUPLE

WITH_VALUE = ("BadState", "BadMarks", "BadWord", "BadView", "BadGuard", "BadEntry")
WITH_AT = ("BadSteps", "BadViews", "BadRun", "BadSights", "BadGuards")
WITH_WORD = ("BadCosts",)
WITH_LIMIT = ("TooMany",)
WITH_NONE = ("NotKept", "NothingDone")
ALL = WITH_VALUE + WITH_AT + WITH_WORD + WITH_LIMIT + WITH_NONE


class ErrorsTest(unittest.TestCase):
    def check_attribute(self, names, attribute, things):
        for name in names:
            for thing in things:
                error = getattr(errors, name)(thing)
                self.assertEqual(list(vars(error)), [attribute], name)
                self.assertTrue(getattr(error, attribute) is thing, name)

    def test_guard_error_is_a_direct_subclass_of_value_error(self):
        self.assertEqual(errors.GuardError.__bases__, (ValueError,))

    def test_all_others_are_direct_subclasses_of_guard_error(self):
        for name in ALL:
            self.assertEqual(getattr(errors, name).__bases__, (errors.GuardError,), name)

    def test_each_class_is_defined_in_errors(self):
        for name in ALL + ("GuardError",):
            self.assertEqual(getattr(errors, name).__module__, "leastguards.errors", name)

    def test_value_is_the_object_itself(self):
        self.check_attribute(WITH_VALUE, "value", [None, "go", 1000, [], {}, DEEP_LIST])

    def test_at(self):
        self.check_attribute(WITH_AT, "at", [-1, 0, 7, 1000])

    def test_word_is_the_key_itself_or_none(self):
        self.check_attribute(WITH_WORD, "word", [None, "go", 5, ("go",), ()])

    def test_limit(self):
        self.check_attribute(WITH_LIMIT, "limit", [8, 12, 200, 2000, 5000])

    def test_errors_without_attributes(self):
        for name in WITH_NONE:
            self.assertEqual(vars(getattr(errors, name)()), {}, name)

    def test_a_deep_object_can_be_told_about(self):
        for name in WITH_VALUE + WITH_WORD:
            for thing in (DEEP_LIST, DEEP_TUPLE):
                error = getattr(errors, name)(thing)
                self.assertIsInstance(str(error), str)
                self.assertIsInstance(repr(error), str)

    def test_each_is_caught_as_guard_error_and_value_error(self):
        for kind in (errors.GuardError, ValueError):
            with self.assertRaises(kind):
                raise errors.BadSteps(3)


if __name__ == "__main__":
    unittest.main()
