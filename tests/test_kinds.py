"""Point [3]: integers, names, states and rows."""

import unittest

from leastguards.kinds import is_index, is_integer, is_name, is_row, is_state
from tests.helper import no_integers, no_names, no_rows


class KindsTest(unittest.TestCase):
    def test_integers(self):
        for thing in (0, 1, -1, 99, 100, 10 ** 6000):
            self.assertIs(is_integer(thing), True)
        for thing in no_integers():
            self.assertIs(is_integer(thing), False)

    def test_numbers_of_things(self):
        for thing in (0, 1, 2):
            self.assertIs(is_index(thing, 3), True)
        for thing in [-1, 3, 4, 10 ** 6000] + no_integers():
            self.assertIs(is_index(thing, 3), False)
        self.assertIs(is_index(0, 0), False)

    def test_names(self):
        for thing in ("a", "z", "go", "abcdefghijkl", "mnopqrstuvwx", "yz", "zzzzzzzzzzzz"):
            self.assertIs(is_name(thing), True, thing)
        for thing in no_names():
            self.assertIs(is_name(thing), False)

    def test_each_letter_and_no_other_character_is_in_names(self):
        letters = "abcdefghijklmnopqrstuvwxyz"
        for code in range(0x3000):
            self.assertIs(is_name(chr(code)), chr(code) in letters, code)
            self.assertIs(is_name("a" + chr(code)), chr(code) in letters, code)

    def test_states(self):
        for thing in (0, 1, 50, 98, 99):
            self.assertIs(is_state(thing), True)
        for thing in [-1, 100, 1000, -99, 10 ** 6000, -10 ** 6000] + no_integers():
            self.assertIs(is_state(thing), False)

    def test_rows(self):
        for thing in ([], (), ["go"], ("go",), [[]], ((),)):
            self.assertIs(is_row(thing), True)
        for thing in no_rows():
            self.assertIs(is_row(thing), False)


if __name__ == "__main__":
    unittest.main()
