"""Tests for the kinds of values: integers, names, states and rows.

Each test asks for the kind of an object before it compares or reads it, so that objects that are
nested deep, or that equal an integer without being one, are refused without being looked into.
"""

LETTERS = "abcdefghijklmnopqrstuvwxyz"
LONGEST_NAME = 12
LAST_STATE = 99


def is_integer(thing):
    """True for an int that is not a bool."""
    return isinstance(thing, int) and not isinstance(thing, bool)


def is_name(thing):
    """True for a string of 1 to 12 letters from a to z."""
    if not isinstance(thing, str) or not 1 <= len(thing) <= LONGEST_NAME:
        return False
    for letter in thing:
        if letter not in LETTERS:
            return False
    return True


def is_state(thing):
    """True for an integer from 0 to 99."""
    return is_integer(thing) and 0 <= thing <= LAST_STATE


def is_index(thing, size):
    """True for an integer that is the number of one of so many things, counted from 0."""
    return is_integer(thing) and 0 <= thing < size


def is_row(thing):
    """True for a list or a tuple."""
    return isinstance(thing, (list, tuple))
