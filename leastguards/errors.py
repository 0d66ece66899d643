"""The errors of the package.

No message shows the refused object: to show one that is nested deep would end in a RecursionError.
"""


class GuardError(ValueError):
    """What all errors of the package are."""


class BadState(GuardError):
    """A value that should be a state is none."""

    def __init__(self, value):
        super().__init__("not a state")
        self.value = value


class BadSteps(GuardError):
    """The steps of a plant, or the one at an index, cannot be taken."""

    def __init__(self, at):
        super().__init__(f"wrong steps at {at}")
        self.at = at


class BadMarks(GuardError):
    """The numbers of steps that should be marked, or one of them, cannot be taken."""

    def __init__(self, value):
        super().__init__("wrong marks")
        self.value = value


class BadWord(GuardError):
    """A value that should be a word is none."""

    def __init__(self, value):
        super().__init__("not a word")
        self.value = value


class BadView(GuardError):
    """A value that should be a view, or a part of one, is none."""

    def __init__(self, value):
        super().__init__("wrong view or part of a view")
        self.value = value


class BadViews(GuardError):
    """A row of views, or the item at an index, cannot be taken."""

    def __init__(self, at):
        super().__init__(f"wrong views at {at}")
        self.at = at


class BadRun(GuardError):
    """A run, or the step of it at an index, cannot be taken."""

    def __init__(self, at):
        super().__init__(f"wrong run at {at}")
        self.at = at


class BadSights(GuardError):
    """A row of sights, or the one at an index, cannot be taken."""

    def __init__(self, at):
        super().__init__(f"wrong sights at {at}")
        self.at = at


class BadGuard(GuardError):
    """A value that should be a guard, or a part of one, is none."""

    def __init__(self, value):
        super().__init__("wrong guard or part of a guard")
        self.value = value


class BadGuards(GuardError):
    """A row of guards, or the item at an index, cannot be taken."""

    def __init__(self, at):
        super().__init__(f"wrong guards at {at}")
        self.at = at


class BadEntry(GuardError):
    """An entry, a number of a step or an item of a choice cannot be taken."""

    def __init__(self, value):
        super().__init__("wrong entry")
        self.value = value


class BadCosts(GuardError):
    """A dict of costs, or the cost of one word, cannot be taken."""

    def __init__(self, word):
        super().__init__("wrong costs")
        self.word = word


class NotKept(GuardError):
    """No guard can keep the plant."""


class TooMany(GuardError):
    """There is more of something than the document allows."""

    def __init__(self, limit):
        super().__init__(f"more than {limit}")
        self.limit = limit


class NothingDone(GuardError):
    """There is no change that could be taken back."""
