"""What guards let: whether they let a run, and shortest runs of some kinds that they let.

A spot is a tuple (state, place of each guard). A place is the number of a node, or None for SHUT.
"""

from leastguards.errors import BadEntry, BadGuards, TooMany
from leastguards.guards import Guard
from leastguards.kinds import is_index, is_row
from leastguards.plants import numbers_by_state
from leastguards.runs import steps_of
from leastguards.tables import path_to

MOST_GUARDS = 3
MOST_SPOTS = 5000


def check_guards(guards):
    """Raise BadGuards unless guards is a row of 1 to 3 guards."""
    if not is_row(guards) or not 1 <= len(guards) <= MOST_GUARDS:
        raise BadGuards(-1)
    for at, guard in enumerate(guards):
        if not isinstance(guard, Guard):
            raise BadGuards(at)


def first_places(guards):
    """The list of the places of the guards before the first step."""
    return [0 for guard in guards]


def is_held(guards, places, word):
    """True if one of the guards holds the word at its place."""
    return any([word in guard.held_at(place) for guard, place in zip(guards, places)])


def places_after(guards, places, word):
    """The list of the places to which a step with this word leads the guards."""
    return [guard.place_after(place, word) for guard, place in zip(guards, places)]


def met_spots(plant, guards, most):
    """The spots to which let runs lead, for path_to, in the order of their shortest, least runs.

    TooMany is raised if there are more spots than most.
    """
    steps = plant.steps
    leaving = numbers_by_state(steps)
    places = first_places(guards)
    first = (plant.start, *places)
    met = {first: None}
    queue = [first]
    done = 0
    while done < len(queue):
        state, *places = queue[done]
        for number in leaving.get(state, []):
            word = steps[number][1]
            after = places_after(guards, places, word)
            spot = (steps[number][2], *after)
            if spot not in met and not is_held(guards, places, word):
                met[spot] = (queue[done], number)
                queue.append(spot)
        if len(queue) > most:
            raise TooMany(most)
        done += 1
    return met


def shortest_of(plant, guards, numbers, most):
    """The shortest, then least, let run whose last step has one of the ascending numbers, or None.

    TooMany is raised if let runs lead to more spots than most.
    """
    steps = plant.steps
    met = met_spots(plant, guards, most)
    for spot in met:
        for number in numbers:
            step = steps[number]
            if spot[0] == step[0] and not is_held(guards, spot[1:], step[1]):
                path = path_to(met, spot)
                return (*path, number)
    return None


def first_held(plant, guards, run):
    """The index of the first step of the run that a guard holds, or None if the run is let."""
    check_guards(guards)
    places = first_places(guards)
    for at, step in enumerate(steps_of(plant, run)):
        if is_held(guards, places, step[1]):
            return at
        places = places_after(guards, places, step[1])
    return None


def lets(plant, guards, run):
    """True if the guards let the run."""
    return first_held(plant, guards, run) is None


def shortest_let(plant, guards, number):
    """The shortest, then least, let run whose last step has this number, or None."""
    check_guards(guards)
    if not is_index(number, len(plant.steps)):
        raise BadEntry(number)
    return shortest_of(plant, guards, [number], MOST_SPOTS)


def let_more(plant, guards, others):
    """The shortest, then least, run that the guards let and the others do not let, or None."""
    check_guards(guards)
    check_guards(others)
    steps = plant.steps
    leaving = numbers_by_state(steps)
    cut = 1 + len(guards)
    met = met_spots(plant, [*guards, *others], MOST_SPOTS)
    for spot in met:
        for number in leaving.get(spot[0], []):
            word = steps[number][1]
            if not is_held(guards, spot[1:cut], word) and is_held(others, spot[cut:], word):
                path = path_to(met, spot)
                return (*path, number)
    return None


def stuck(plant, guards):
    """The shortest, then least, let run after which there are steps, all of them held, or None."""
    check_guards(guards)
    steps = plant.steps
    leaving = numbers_by_state(steps)
    met = met_spots(plant, guards, MOST_SPOTS)
    for spot in met:
        numbers = leaving.get(spot[0], [])
        held = [is_held(guards, spot[1:], steps[number][1]) for number in numbers]
        if numbers and all(held):
            return tuple(path_to(met, spot))
    return None
