"""Plants: finite machines with wanted and barred steps."""

from leastguards.errors import BadMarks, BadState, BadSteps, TooMany
from leastguards.kinds import is_integer, is_name, is_row, is_state

MOST_STEPS = 60
MOST_STEPS_OF_STATE = 8
MOST_WORDS = 12


def is_step(thing):
    """True for a tuple (state, word, state)."""
    if not isinstance(thing, tuple) or len(thing) != 3:
        return False
    return is_state(thing[0]) and is_name(thing[1]) and is_state(thing[2])


def check_steps(steps):
    """Raise BadSteps unless steps is a row of 1 to 60 different steps, at most 8 of each state."""
    if not is_row(steps) or not 1 <= len(steps) <= MOST_STEPS:
        raise BadSteps(-1)
    earlier = {}
    leaving = {}
    for at, step in enumerate(steps):
        if not is_step(step) or step in earlier:
            raise BadSteps(at)
        earlier[step] = True
        leaving[step[0]] = leaving.get(step[0], 0) + 1
        if leaving[step[0]] > MOST_STEPS_OF_STATE:
            raise BadSteps(at)


def words_of(steps):
    """The ascending list of the words of the steps."""
    return sorted({step[1] for step in steps})


def check_marks(numbers, allowed):
    """Raise BadMarks unless numbers is a row of different integers that are in the list allowed."""
    if not is_row(numbers):
        raise BadMarks(numbers)
    earlier = {}
    for number in numbers:
        if not is_integer(number) or number not in allowed or number in earlier:
            raise BadMarks(number)
        earlier[number] = True


def without(numbers, gone):
    """The numbers that are not in gone, in their order."""
    return [number for number in numbers if number not in gone]


def numbers_by_state(steps):
    """The numbers of the steps in an ascending list for each state where some begin."""
    leaving = {}
    for number, step in enumerate(steps):
        leaving.setdefault(step[0], []).append(number)
    return leaving


def targets_by_state(steps):
    """The targets of the steps in a list for each state where some of the steps begin."""
    targets = {}
    for step in steps:
        targets.setdefault(step[0], []).append(step[2])
    return targets


def states_from(states, steps):
    """The ascending list of the states that the steps reach from these, themselves included."""
    targets = targets_by_state(steps)
    reached = {state: True for state in states}
    waiting = list(reached)
    while waiting:
        state = waiting.pop()
        for target in targets.get(state, []):
            if target not in reached:
                reached[target] = True
                waiting.append(target)
    return sorted(reached)


class Plant:
    """A machine that begins at a state and does steps; some of them are wanted and some barred."""

    def __init__(self, start, steps, wanted, barred=()):
        if not is_state(start):
            raise BadState(start)
        check_steps(steps)
        if len(words_of(steps)) > MOST_WORDS:
            raise TooMany(MOST_WORDS)
        numbers = list(range(len(steps)))
        check_marks(wanted, numbers)
        check_marks(barred, without(numbers, wanted))
        self.start_state = start
        self.step_list = list(steps)
        self.word_list = words_of(steps)
        self.wanted_list = sorted(wanted)
        self.barred_list = sorted(barred)
        self.state_list = states_from([start], steps)

    def __eq__(self, other):
        return (isinstance(other, Plant) and self.start_state == other.start_state
                and self.step_list == other.step_list and self.wanted_list == other.wanted_list
                and self.barred_list == other.barred_list)

    @property
    def start(self):
        """The state where the plant begins."""
        return self.start_state

    @property
    def steps(self):
        """The list of the steps in their order."""
        return list(self.step_list)

    @property
    def words(self):
        """The ascending list of the words of the steps."""
        return list(self.word_list)

    @property
    def wanted(self):
        """The ascending list of the numbers of the wanted steps."""
        return list(self.wanted_list)

    @property
    def barred(self):
        """The ascending list of the numbers of the barred steps."""
        return list(self.barred_list)

    @property
    def states(self):
        """The ascending list of the states that are reached from the start, itself included."""
        return list(self.state_list)

    def giving_up(self, numbers):
        """A new plant in which the steps with these numbers are no longer wanted."""
        check_marks(numbers, self.wanted_list)
        left = without(self.wanted_list, numbers)
        return Plant(self.start_state, self.step_list, left, self.barred_list)
