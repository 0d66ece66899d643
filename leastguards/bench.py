"""The bench: a view of a plant that is changed, tried and changed back."""

from leastguards.errors import BadEntry, BadView, BadWord, NothingDone
from leastguards.forced import keepable
from leastguards.kinds import is_name, is_row
from leastguards.views import View


def is_change(thing):
    """True for ("see", word, sight), ("hold", word) or ("free", word); the sight may be None."""
    if not isinstance(thing, tuple) or not 2 <= len(thing) <= 3:
        return False
    if not is_name(thing[0]) or not is_name(thing[1]):
        return False
    if len(thing) == 2:
        return thing[0] in ("hold", "free")
    return thing[0] == "see" and (thing[2] is None or is_name(thing[2]))


def check_changes(changes):
    """Raise BadEntry unless changes is a row of changes."""
    if not is_row(changes):
        raise BadEntry(changes)
    for item in changes:
        if not is_change(item):
            raise BadEntry(item)


class Trial:
    """A block at whose end a bench is again as it was before the block."""

    def __init__(self, bench):
        self.bench = bench
        self.shelf = bench.shelf
        self.views_before = []

    def __enter__(self):
        self.views_before = list(self.shelf[0])
        return self.bench

    def __exit__(self, kind, value, trace):
        self.shelf.clear()
        self.shelf.append(self.views_before)


class Bench:
    """A plant and a view, which changes one by one; the changes can be taken back."""

    def __init__(self, plant):
        self.own_plant = plant
        # The shelf has one item: the list of the views after each change, none of which is changed
        # itself. A trial has the same shelf, and at its end puts the earlier list there.
        self.shelf = [[]]

    def __len__(self):
        return len(self.shelf[0])

    def __getitem__(self, at):
        view = self.present_view()
        return view[at]

    def __setitem__(self, at, worth):
        view = self.chosen
        view[at] = worth
        self.change_to(view)

    # Without this, Python would ask bench[0], bench[1] .. where a bench is iterated over.
    def __iter__(self):
        raise TypeError("a bench is not iterated over")

    @property
    def chosen(self):
        """A copy of the view of the bench."""
        return self.present_view().copy()

    @chosen.setter
    def chosen(self, value):
        self.follow(value)

    def present_view(self):
        """The view of the bench itself."""
        views = self.shelf[0]
        if not views:
            return View()
        return views[-1]

    def change_to(self, view):
        """Make this view the view of the bench, as one change."""
        self.shelf[0].append(view)

    def hold(self, word):
        """Let the view hold the word, too."""
        view = self.chosen
        view.hold_just(view.holds + [word])
        self.change_to(view)

    def free(self, word):
        """Take the word from those that the view can hold."""
        if not is_name(word):
            raise BadWord(word)
        view = self.chosen
        view.hold_just([held for held in view.holds if held != word])
        self.change_to(view)

    def follow(self, view):
        """Make a copy of this view the view of the bench."""
        if not isinstance(view, View):
            raise BadView(view)
        self.change_to(view.copy())

    def keeps(self):
        """True if no forced run of the plant with this view contains a barred step."""
        return keepable(self.own_plant, [self.present_view()])

    def undo(self):
        """Take back the last change."""
        views = self.shelf[0]
        if not views:
            raise NothingDone()
        views.pop()

    def trial(self):
        """A context for one with statement, which takes back all that its block changes."""
        return Trial(self)

    def trying(self, deed):
        """What deed returns for the bench; what it changes is taken back."""
        with self.trial() as bench:
            return deed(bench)

    def do_change(self, change):
        """Do one of the changes that is_change tells."""
        if change[0] == "see":
            self[change[1]] = change[2]
        elif change[0] == "hold":
            self.hold(change[1])
        else:
            self.free(change[1])

    def tried(self, changes):
        """What keeps returns after each of the changes, which are then taken back."""
        check_changes(changes)
        told = []
        with self.trial():
            for change in changes:
                self.do_change(change)
                told.append(self.keeps())
        return told
