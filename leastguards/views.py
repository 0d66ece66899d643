"""Views: what a guard sees and what it can hold."""

from leastguards.errors import BadView, BadWord
from leastguards.kinds import is_name, is_row


def check_sights(sights):
    """Raise BadView unless sights is a dict whose keys and values are all names."""
    if not isinstance(sights, dict):
        raise BadView(sights)
    for word, sight in sights.items():
        if not is_name(word) or not is_name(sight):
            raise BadView(sights)


def check_words(words):
    """Raise BadView unless words is a row, BadWord for its first item that is not a name."""
    if not is_row(words):
        raise BadView(words)
    for word in words:
        if not is_name(word):
            raise BadWord(word)


def sights_without(sights, words):
    """A new dict of the sights of the words that are not in the row words."""
    gone = set(words)
    return {word: sights[word] for word in sights if word not in gone}


class View:
    """The sights that a guard sees for words, and the words that it can hold."""

    def __init__(self, sights=None, holds=()):
        if sights is None:
            sights = {}
        check_sights(sights)
        check_words(holds)
        self.sight_table = dict(sights)
        self.hold_list = sorted(set(holds))

    def __eq__(self, other):
        return (isinstance(other, View) and self.sight_table == other.sight_table
                and self.hold_list == other.hold_list)

    def __len__(self):
        return len(self.sight_table)

    def __contains__(self, x):
        return is_name(x) and x in self.sight_table

    def __getitem__(self, at):
        if not is_name(at):
            raise BadWord(at)
        return self.sight_table.get(at)

    def __setitem__(self, at, worth):
        if not is_name(at):
            raise BadWord(at)
        if worth is not None and not is_name(worth):
            raise BadView(worth)
        if worth is not None:
            self.sight_table[at] = worth
        elif at in self.sight_table:
            del self.sight_table[at]

    # Without this, Python would ask view[0], view[1] .. where a view is iterated over.
    def __iter__(self):
        raise TypeError("a view is not iterated over")

    # For a word in both dicts the last one counts, so the dict of the left operand comes last.
    def __or__(self, other):
        check_sights(other)
        return View({**other, **self.sight_table}, self.hold_list)

    def __ror__(self, other):
        check_sights(other)
        return View({**self.sight_table, **other}, self.hold_list)

    def __ior__(self, other):
        check_sights(other)
        self.sight_table = {**other, **self.sight_table}
        return self

    def __sub__(self, other):
        check_words(other)
        return View(sights_without(self.sight_table, other), self.hold_list)

    def __isub__(self, other):
        check_words(other)
        self.sight_table = sights_without(self.sight_table, other)
        return self

    @property
    def words(self):
        """The ascending list of the seen words."""
        return sorted(self.sight_table)

    @property
    def sights(self):
        """A dict of the seen words to their sights."""
        return dict(self.sight_table)

    @property
    def holds(self):
        """The ascending list of the words that the view can hold."""
        return list(self.hold_list)

    @holds.setter
    def holds(self, value):
        self.hold_just(value)

    def hold_just(self, words):
        """Make the words of the row the only ones that the view can hold."""
        check_words(words)
        self.hold_list = sorted(set(words))

    def copy(self):
        """A new, equal view that does not change with this one."""
        return View(self.sight_table, self.hold_list)


def seeing(words, holds=()):
    """A view that sees each of the words as itself and can hold the words in holds."""
    check_words(words)
    return View({word: word for word in words}, holds)
