"""Guards: tables that tell which words are held after a row of sights, and the least guard."""

from leastguards.ends import ends_after, first_ends, wanted_by_sight
from leastguards.errors import BadGuard, BadSights, TooMany
from leastguards.kinds import is_index, is_name, is_row
from leastguards.tables import met_pairs, moves_of_pairs, path_to, smallest_table
from leastguards.views import View

MOST_NODES = 200


def check_held(held, holds):
    """Raise BadGuard unless held is a row of 1 to 200 rows of words that are in holds."""
    if not is_row(held) or not 1 <= len(held) <= MOST_NODES:
        raise BadGuard(held)
    allowed = set(holds)
    for item in held:
        if not is_row(item):
            raise BadGuard(item)
        for word in item:
            if not is_name(word) or word not in allowed:
                raise BadGuard(item)


def is_node_and_name(thing, size):
    """True for a tuple of the number of one of so many nodes and of a name."""
    if not isinstance(thing, tuple) or len(thing) != 2:
        return False
    return is_index(thing[0], size) and is_name(thing[1])


def check_moves(moves, size, sights):
    """Raise BadGuard unless moves is a dict of pairs (node, sight) to nodes, with these sights."""
    if not isinstance(moves, dict):
        raise BadGuard(moves)
    allowed = set(sights)
    for key, target in moves.items():
        if not is_node_and_name(key, size) or key[1] not in allowed:
            raise BadGuard(key)
        if not is_index(target, size):
            raise BadGuard(target)


def check_names(sights):
    """Raise BadSights unless sights is a row of names."""
    if not is_row(sights):
        raise BadSights(-1)
    for at, sight in enumerate(sights):
        if not is_name(sight):
            raise BadSights(at)


def in_either(words, more):
    """The ascending tuple of the words of both tuples."""
    return tuple(sorted(set([*words, *more])))


def in_both(words, more):
    """The tuple of those of the words that are in more, too."""
    return tuple([word for word in words if word in more])


class Guard:
    """A table of nodes, each with the words that are held there, and of moves between them.

    A place is the number of a node, or None for SHUT.
    """

    def __init__(self, view, moves, held):
        if not isinstance(view, View):
            raise BadGuard(view)
        check_held(held, view.holds)
        check_moves(moves, len(held), list(view.sights.values()))
        self.own_view = view.copy()
        self.sight_table = view.sights
        self.shut_held = tuple(view.holds)
        self.move_table = {key: moves[key] for key in sorted(moves)}
        self.held_list = [tuple(sorted(set(item))) for item in held]

    def __eq__(self, other):
        return (isinstance(other, Guard) and self.own_view == other.own_view
                and self.move_table == other.move_table and self.held_list == other.held_list)

    def __call__(self, sights):
        return list(self.held_at(self.node_after(sights)))

    # Where one of both is at SHUT, all words are held from then on, as after a sight without a move.
    def __and__(self, other):
        self.check_other(other)
        pairs = list(met_pairs(self.move_table, other.move_table, True))
        held = [in_either(self.held_at(one), other.held_at(two)) for one, two in pairs]
        return self.joined(other, pairs, held)

    def __or__(self, other):
        self.check_other(other)
        pairs = list(met_pairs(self.move_table, other.move_table, False))
        held = [in_both(self.held_at(one), other.held_at(two)) for one, two in pairs]
        return self.joined(other, pairs, held)

    @property
    def view(self):
        """A copy of the view of the guard."""
        return self.own_view.copy()

    @property
    def size(self):
        """The number of nodes."""
        return len(self.held_list)

    @property
    def moves(self):
        """A dict of pairs (node, sight) to nodes, with its keys in ascending order."""
        return {key: self.move_table[key] for key in self.move_table}

    @property
    def held(self):
        """The list of the ascending tuples of the words that are held at each node."""
        return list(self.held_list)

    def check_other(self, other):
        """Raise BadGuard unless other is a guard with an equal view."""
        if not isinstance(other, Guard) or self.own_view != other.own_view:
            raise BadGuard(other)

    def joined(self, other, pairs, held):
        """The smallest guard for the table whose nodes are these pairs of places of both guards."""
        if len(pairs) > MOST_NODES:
            raise TooMany(MOST_NODES)
        moves = moves_of_pairs(pairs, self.move_table, other.move_table)
        moves, held = smallest_table(moves, held, self.shut_held)
        return Guard(self.own_view, moves, held)

    def held_at(self, place):
        """The ascending tuple of the words that are held at a place."""
        if place is None:
            return self.shut_held
        return self.held_list[place]

    def place_after(self, place, word):
        """The place to which a step with this word leads from a place."""
        sight = self.sight_table.get(word)
        if sight is None:
            return place
        return self.move_table.get((place, sight))

    def node_after(self, sights):
        """The node after these sights, or None at SHUT."""
        check_names(sights)
        place = 0
        for sight in sights:
            place = self.move_table.get((place, sight))
        return place

    def smallest(self):
        """The guard with the fewest nodes that holds alike with this one."""
        moves, held = smallest_table(self.move_table, self.held_list, self.shut_held)
        return Guard(self.own_view, moves, held)

    def within(self, other):
        """True if this guard always holds every word that the other one holds."""
        self.check_other(other)
        for one, two in met_pairs(self.move_table, other.move_table, False):
            holding = self.held_at(one)
            if not all([word in holding for word in other.held_at(two)]):
                return False
        return True

    def apart(self, other):
        """The shortest, then least, row of sights after which both hold different words, or None."""
        self.check_other(other)
        met = met_pairs(self.move_table, other.move_table, False)
        for one, two in met:
            if self.held_at(one) != other.held_at(two):
                return path_to(met, (one, two))
        return None


def words_held(holds, table, ends):
    """The words of holds with which no wanted step leaves the ends."""
    going_on = {step[1] for sight in table for step in table[sight] if step[0] in ends}
    return [word for word in holds if word not in going_on]


def least_guard(plant, view):
    """The guard that holds just the words with which no wanted run with the same sights goes on."""
    table = wanted_by_sight(plant, view)
    sights = sorted([sight for sight in table if sight is not None])
    met = [first_ends(plant, table)]
    numbers = {met[0]: 0}
    moves = {}
    done = 0
    while done < len(met):
        for sight in sights:
            ends = ends_after(table, met[done], sight)
            if not ends:
                continue
            if ends not in numbers:
                numbers[ends] = len(met)
                met.append(ends)
            moves[(done, sight)] = numbers[ends]
        if len(met) > MOST_NODES:
            raise TooMany(MOST_NODES)
        done += 1
    return Guard(view, moves, [words_held(view.holds, table, ends) for ends in met])
