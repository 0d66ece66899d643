"""What several tests need: objects of all kinds, and a check of an error and its attribute."""

from leastguards.guards import Guard
from leastguards.plants import Plant
from leastguards.views import View

DEPTH = 100000
# Python computes the hash of a key without a guard against deep nesting, so a key is less deep.
KEY_DEPTH = 2000


def lane_of(many):
    """Steps (0, "go", 1), (1, "go", 2) .. : one from each state."""
    return [(state, "go", state + 1) for state in range(many)]


def words_of(many):
    """Different words: aa, ab, ac .."""
    return [chr(97 + at // 26) + chr(97 + at % 26) for at in range(many)]


def sample_plant():
    """The plant of the examples in the document's interface."""
    steps = [(0, "go", 1), (0, "go", 2), (1, "up", 0), (2, "up", 3), (2, "low", 0)]
    return Plant(0, steps, [0, 1, 2, 4], [3])


def sample_view():
    """The view of the examples in the document's interface."""
    return View({"go": "g", "up": "u"}, ["up"])


def sample_guard():
    """The least guard of the examples in the document's interface."""
    return Guard(sample_view(), {(0, "g"): 1, (1, "g"): 1, (1, "u"): 0}, [["up"], []])


def ring_guard(size, sight="go", words=("go", "hop")):
    """A guard that goes round so many nodes by one sight, and holds "up" at the last node."""
    view = View({word: word for word in words}, ["up"])
    moves = {(node, sight): (node + 1) % size for node in range(size)}
    return Guard(view, moves, [[]] * (size - 1) + [["up"]])


def lane_guard(size, sight="go", words=("go", "hop")):
    """A guard that goes along so many nodes by one sight, and holds nothing at nodes."""
    view = View({word: word for word in words}, ["up"])
    return Guard(view, {(node, sight): node + 1 for node in range(size - 1)}, [[]] * size)


def deep_list():
    nest = []
    for _ in range(DEPTH):
        nest = [nest]
    return nest


def deep_tuple(depth=DEPTH):
    nest = ()
    for _ in range(depth):
        nest = (nest,)
    return nest


def deep_dict():
    nest = {}
    for _ in range(DEPTH):
        nest = {"go": nest}
    return nest


# Made once, as it takes long; no test changes them.
DEEP_LIST = deep_list()
DEEP_TUPLE = deep_tuple()
DEEP_DICT = deep_dict()


def looped_list():
    loop = []
    loop.append(loop)
    return loop


def plain_things():
    """Objects that are no rows, dicts, strings or integers."""
    return [
        None, True, False, 0.0, 1.5, float("nan"), 1j, b"go", bytearray(b"go"), {1, 2}, {"go"},
        frozenset({"go"}), range(3), slice(1), Ellipsis, NotImplemented, object(), int, len,
        lambda row: row, iter(["go"]), iter({"go": "g"}), (word for word in ["go"]), zip(["go"]),
        ValueError("go"), memoryview(b"go"), sample_plant(), sample_view(), View(),
    ]


def rows_and_dicts():
    """Rows and dicts, also nested deep ones."""
    return [
        [], (), {}, ["go"], ("go",), {"go": "g"}, [[]], ((),), [0], (0, "go", 1), DEEP_LIST,
        DEEP_TUPLE, DEEP_DICT, [DEEP_TUPLE], (DEEP_LIST,), {"go": DEEP_LIST}, looped_list(),
        {deep_tuple(KEY_DEPTH): "go"},
    ]


def all_things():
    """Objects of all kinds that [6] names."""
    things = ["", "go", 0, 1, -1, 10 ** 6000, sample_guard()]
    return things + plain_things() + rows_and_dicts()


def no_guards():
    """Objects that are not guards."""
    return [thing for thing in all_things() if not isinstance(thing, Guard)]


def no_names():
    """Objects that are not names."""
    texts = ["", "abcdefghijklm", "a" * 1000, "Go", "GO", "gO", "g1", "1", "a b", " go", "go ",
             "go\n", "\n", "a_b", "a-b", "`", "{", "\u00e9", "\u00df", "\u0430", "\uff41", "\x00",
             "\ud800", "\u0131", "\U0001f600"]
    return texts + [0, 1, -1, 97, 10 ** 6000] + plain_things() + rows_and_dicts()


def no_rows():
    """Objects that are neither lists nor tuples."""
    things = ["", "go", "a", 0, 1, 60] + plain_things() + rows_and_dicts()
    return [thing for thing in things if not isinstance(thing, (list, tuple))]


def no_integers():
    """Objects that are not integers."""
    return ["", "0", "go"] + plain_things() + rows_and_dicts()


def no_dicts():
    """Objects that are not dicts."""
    things = ["", "go", 0, 1] + plain_things() + rows_and_dicts()
    return [thing for thing in things if not isinstance(thing, dict)]


def caught(call):
    """The error that the call raises, or None."""
    try:
        call()
    except Exception as error:
        return error
    return None


def assert_refused(case, kind, attribute, thing, call):
    """Check that the call raises just this kind of error, with the object itself as attribute."""
    error = caught(call)
    case.assertIsNotNone(error, "no error was raised")
    case.assertIs(type(error), kind)
    told = getattr(error, attribute)
    case.assertTrue(told is thing, "the attribute is not the refused object")


def assert_refused_at(case, kind, at, call):
    """Check that the call raises just this kind of error, with this index."""
    error = caught(call)
    case.assertIs(type(error), kind)
    case.assertIs(type(error.at), int)
    case.assertEqual(error.at, at)


def assert_too_many(case, limit, call):
    """Check that the call raises TooMany with this limit."""
    error = caught(call)
    case.assertEqual(type(error).__name__, "TooMany")
    case.assertIs(type(error.limit), int)
    case.assertEqual(error.limit, limit)
