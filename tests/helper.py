"""What several tests need: objects of all kinds, and a check of an error and its attribute."""

from leastguards.bench import Bench
from leastguards.guards import Guard
from leastguards.plants import Plant
from leastguards.views import View

DEPTH = 100000
# Python computes the hash of a key without a guard against deep nesting, so a key is less deep.
KEY_DEPTH = 2000


def lane_of(many):
    """Steps (0, "go", 1), (1, "go", 2) .. : one from each state."""
    return [(state, "go", state + 1) for state in range(many)]


def words_of(many):
    """Different words: aa, ab, ac .."""
    return [chr(97 + at // 26) + chr(97 + at % 26) for at in range(many)]


def sample_plant():
    """The plant of the examples in the document's interface."""
    steps = [(0, "go", 1), (0, "go", 2), (1, "up", 0), (2, "up", 3), (2, "low", 0)]
    return Plant(0, steps, [0, 1, 2, 4], [3])


def sample_view():
    """The view of the examples in the document's interface."""
    return View({"go": "g", "up": "u"}, ["up"])


def sample_guard():
    """The least guard of the examples in the document's interface."""
    return Guard(sample_view(), {(0, "g"): 1, (1, "g"): 1, (1, "u"): 0}, [["up"], []])


def ring_guard(size, sight="go", words=("go", "hop")):
    """A guard that goes round so many nodes by one sight, and holds "up" at the last node."""
    view = View({word: word for word in words}, ["up"])
    moves = {(node, sight): (node + 1) % size for node in range(size)}
    return Guard(view, moves, [[]] * (size - 1) + [["up"]])


def lane_guard(size, sight="go", words=("go", "hop")):
    """A guard that goes along so many nodes by one sight, and holds nothing at nodes."""
    view = View({word: word for word in words}, ["up"])
    return Guard(view, {(node, sight): node + 1 for node in range(size - 1)}, [[]] * size)


def deep_list():
    nest = []
    for _ in range(DEPTH):
        nest = [nest]
    return nest


def deep_tuple(depth=DEPTH):
    nest = ()
    for _ in range(depth):
        nest = (nest,)
    return nest


def deep_dict():
    nest = {}
    for _ in range(DEPTH):
        nest = {"go": nest}
    return nest


# Made once, as it takes long; no test changes them.
DEEP_LIST = deep_list()
DEEP_TUPLE = deep_tuple()
DEEP_DICT = deep_dict()


def looped_list():
    loop = []
    loop.append(loop)
    return loop


def plain_things():
    """Objects that are no rows, dicts, strings or integers."""
    return [
        None, True, False, 0.0, 1.5, float("nan"), 1j, b"go", bytearray(b"go"), {1, 2}, {"go"},
        frozenset({"go"}), range(3), slice(1), Ellipsis, NotImplemented, object(), int, len,
        lambda row: row, iter(["go"]), iter({"go": "g"}), (word for word in ["go"]), zip(["go"]),
        ValueError("go"), memoryview(b"go"), sample_plant(), sample_view(), View(),
        Bench(sample_plant()),
    ]


def rows_and_dicts():
    """Rows and dicts, also nested deep ones."""
    return [
        [], (), {}, ["go"], ("go",), {"go": "g"}, [[]], ((),), [0], (0, "go", 1), DEEP_LIST,
        DEEP_TUPLE, DEEP_DICT, [DEEP_TUPLE], (DEEP_LIST,), {"go": DEEP_LIST}, looped_list(),
        {deep_tuple(KEY_DEPTH): "go"},
    ]


def all_things():
    """Objects of all kinds that [6] names."""
    things = ["", "go", 0, 1, -1, 10 ** 6000, sample_guard()]
    return things + plain_things() + rows_and_dicts()


def no_guards():
    """Objects that are not guards."""
    return [thing for thing in all_things() if not isinstance(thing, Guard)]


def no_names():
    """Objects that are not names."""
    texts = ["", "abcdefghijklm", "a" * 1000, "Go", "GO", "gO", "g1", "1", "a b", " go", "go ",
             "go\n", "\n", "a_b", "a-b", "`", "{", "\u00e9", "\u00df", "\u0430", "\uff41", "\x00",
             "\ud800", "\u0131", "\U0001f600"]
    return texts + [0, 1, -1, 97, 10 ** 6000] + plain_things() + rows_and_dicts()


def no_rows():
    """Objects that are neither lists nor tuples."""
    things = ["", "go", "a", 0, 1, 60] + plain_things() + rows_and_dicts()
    return [thing for thing in things if not isinstance(thing, (list, tuple))]


def no_integers():
    """Objects that are not integers."""
    return ["", "0", "go"] + plain_things() + rows_and_dicts()


def no_dicts():
    """Objects that are not dicts."""
    things = ["", "go", 0, 1] + plain_things() + rows_and_dicts()
    return [thing for thing in things if not isinstance(thing, dict)]


def caught(call):
    """The error that the call raises, or None."""
    try:
        call()
    except Exception as error:
        return error
    return None


def assert_refused(case, kind, attribute, thing, call):
    """Check that the call raises just this kind of error, with the object itself as attribute."""
    error = caught(call)
    case.assertIsNotNone(error, "no error was raised")
    case.assertIs(type(error), kind)
    told = getattr(error, attribute)
    case.assertTrue(told is thing, "the attribute is not the refused object")


def assert_refused_at(case, kind, at, call):
    """Check that the call raises just this kind of error, with this index."""
    error = caught(call)
    case.assertIs(type(error), kind)
    case.assertIs(type(error.at), int)
    case.assertEqual(error.at, at)


def assert_too_many(case, limit, call):
    """Check that the call raises TooMany with this limit."""
    error = caught(call)
    case.assertEqual(type(error).__name__, "TooMany")
    case.assertIs(type(error.limit), int)
    case.assertEqual(error.limit, limit)


def no_views():
    """Objects that are not views."""
    return [thing for thing in all_things() if not isinstance(thing, View)]


def sight_cycles(*sizes):
    """Steps that lead from 0 into cycles of so many states, all with the word go."""
    steps, base = [], 1
    for size in sizes:
        steps.append((0, "go", base))
        steps += [(base + at, "go", base + (at + 1) % size) for at in range(size)]
        base += size
    return steps


def lane_steps(many):
    """Steps with the word hop from 0 to 50 and on to the states behind it."""
    states = [0] + [50 + at for at in range(many)]
    return [(one, "hop", other) for one, other in zip(states, states[1:])]


def wide_plant(lane, barred=()):
    """A plant that has 1981 + lane standings with a view that sees go and can hold nothing.

    After go was seen once the plant is in one of three cycles of 5, 11 and 12 states, and the ends
    have a state of each: there are 3 * 660 standings. A further one is that of the start, and one
    that of each state of the lane, of which no step is wanted. Step 0 leads to the first cycle, and
    step 31 is the first one of the lane.
    """
    steps = sight_cycles(5, 11, 12)
    return Plant(0, steps + lane_steps(lane), list(range(len(steps))), barred)


def far_plant():
    """A plant and two views with a shortest forced run of 1681 steps to its only barred step.

    The words in, mid and out lead into cycles of 7, 15 and 16 states and round them. The first view
    cannot tell in from mid, the second one cannot tell in from out. Only at the last states of the
    cycles a step up leaves; it is barred in the first cycle and wanted in the others.
    """
    steps, base = [], 1
    for word, size in (("in", 7), ("mid", 15), ("out", 16)):
        steps.append((0, word, base))
        steps += [(base + at, word, base + (at + 1) % size) for at in range(size)]
        base += size
    steps += [(7, "up", 90), (22, "up", 90), (38, "up", 90)]
    plant = Plant(0, steps, [number for number in range(44) if number != 41], [41])
    views = [View({"in": "a", "mid": "a", "out": "b"}, ["up"]),
             View({"in": "a", "mid": "b", "out": "a"}, ["up"])]
    return plant, views
