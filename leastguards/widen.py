"""Wider guards: the entries of the least guard that can be let so that it stays safe.

An entry is a pair (node, word) such that the guard holds the word at the node. A spot is a tuple
(state, place). A place is the number of a node, or None for SHUT.
"""

from leastguards.errors import BadEntry, BadGuard, NotKept
from leastguards.forced import keepable
from leastguards.guards import Guard, least_guard
from leastguards.kinds import is_index, is_name
from leastguards.letting import shortest_of
from leastguards.plants import numbers_by_state


def entries_of(guard):
    """The ascending list of the entries of the guard."""
    return [(node, word) for node, words in enumerate(guard.held) for word in words]


def letting_these(guard, entries):
    """A guard with the same nodes and moves that does not hold these entries."""
    let = set(entries)
    held = [[word for word in words if (node, word) not in let]
            for node, words in enumerate(guard.held)]
    return Guard(guard.view, guard.moves, held)


def steps_by_state(plant):
    """For each state where steps begin a list of them, each as (word, target, is it barred)."""
    steps = plant.steps
    barred = set(plant.barred)
    leaving = numbers_by_state(steps)
    return {state: [(steps[number][1], steps[number][2], number in barred)
                    for number in leaving[state]] for state in leaving}


class Widening:
    """A safe guard whose entries are let one by one, and the spots to which runs lead that it lets."""

    def __init__(self, plant, guard):
        self.own_guard = guard
        self.state_list = plant.states
        self.leaving = steps_by_state(plant)
        self.let_entries = {}
        self.met_already = {}
        self.met_already = self.spots_behind([(plant.start, 0)], None)

    def is_let(self, place, word, entry):
        """True if the word is not held at the place, where this entry is let with the earlier ones."""
        if (place, word) == entry or (place, word) in self.let_entries:
            return True
        return word not in self.own_guard.held_at(place)

    def spots_behind(self, spots, entry):
        """These spots and those that are met first behind them; None if a barred step is let there."""
        found = {spot: True for spot in spots}
        waiting = list(spots)
        while waiting:
            state, place = waiting.pop()
            for word, target, is_barred in self.leaving.get(state, []):
                if not self.is_let(place, word, entry):
                    continue
                if is_barred:
                    return None
                spot = (target, self.own_guard.place_after(place, word))
                if spot not in self.met_already and spot not in found:
                    found[spot] = True
                    waiting.append(spot)
        return found

    def spots_with(self, entry):
        """The spots at which letting this entry is felt; None if the guard is not safe then."""
        spots = [(state, entry[0]) for state in self.state_list
                 if (state, entry[0]) in self.met_already]
        return self.spots_behind(spots, entry)

    def let_entry(self, entry, found):
        """Let the entry for good; found is what spots_with returns for it."""
        self.let_entries[entry] = True
        for spot in found:
            self.met_already[spot] = True


def safe_least_guard(plant, view):
    """The least guard of the view; NotKept is raised if it is not safe."""
    if not keepable(plant, [view]):
        raise NotKept()
    return least_guard(plant, view)


def spare(plant, view):
    """The ascending list of the entries of the least guard that can be let, each for itself."""
    guard = safe_least_guard(plant, view)
    widening = Widening(plant, guard)
    return [entry for entry in entries_of(guard) if widening.spots_with(entry) is not None]


def widest(plant, view):
    """The least guard without the entries that can be let one after the other."""
    guard = safe_least_guard(plant, view)
    widening = Widening(plant, guard)
    let = []
    for entry in entries_of(guard):
        found = widening.spots_with(entry)
        if found is not None:
            widening.let_entry(entry, found)
            let.append(entry)
    return letting_these(guard, let)


def entry_run(plant, guard, node, word):
    """The shortest, then least, run with a barred last step that is let with this entry, or None."""
    if not isinstance(guard, Guard):
        raise BadGuard(guard)
    if not is_index(node, guard.size) or not is_name(word) or word not in guard.held[node]:
        raise BadEntry((node, word))
    wider = letting_these(guard, [(node, word)])
    # There is no limit here: this is the number of all spots.
    most = len(plant.states) * (guard.size + 1)
    return shortest_of(plant, [wider], plant.barred, most)
