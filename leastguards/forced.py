"""Forced runs: the runs that all guards that allow the wanted runs must let, and certificates."""

from leastguards.errors import BadEntry, BadViews
from leastguards.kinds import is_index, is_integer, is_row
from leastguards.papers import is_paper, is_tuple_of, paper_of
from leastguards.tables import path_to
from leastguards.views import View
from leastguards.watch import Forcing, bits_of, states_in

MOST_VIEWS = 3


def check_views(views):
    """Raise BadViews unless views is a row of 1 to 3 views."""
    if not is_row(views) or not 1 <= len(views) <= MOST_VIEWS:
        raise BadViews(-1)
    for at, view in enumerate(views):
        if not isinstance(view, View):
            raise BadViews(at)


def with_states(standing):
    """The standing with a tuple of states in place of each integer for the ends."""
    state, *ends = standing
    told = [states_in(bits) for bits in ends]
    return (state, *told)


def with_bits(standing):
    """The standing with an integer for the ends in place of each tuple of states."""
    state, *ends = standing
    told = [bits_of(states) for states in ends]
    return (state, *told)


def standings(plant, views):
    """The ascending list of the standings after all forced runs."""
    check_views(views)
    return sorted([with_states(standing) for standing in Forcing(plant, views).met_standings()])


def shortest_forced(plant, views, numbers):
    """The shortest, then least, forced run whose last step has one of these numbers, or None."""
    last = set(numbers)
    forcing = Forcing(plant, views)
    met = forcing.met_standings()
    for standing in met:
        for number, after in forcing.forced_from(standing):
            if number in last:
                path = path_to(met, standing)
                return (*path, number)
    return None


def paper_of_shortest(plant, views, numbers):
    """The paper of the run that shortest_forced returns, or None."""
    run = shortest_forced(plant, views, numbers)
    if run is None:
        return None
    return paper_of(plant, views, run)


def not_wanted(plant):
    """The ascending list of the numbers of the steps that are not wanted."""
    wanted = set(plant.wanted)
    return [number for number in range(len(plant.steps)) if number not in wanted]


def forced(plant, views, number):
    """The paper of the shortest, then least, forced run whose last step has this number, or None."""
    check_views(views)
    if not is_index(number, len(plant.steps)):
        raise BadEntry(number)
    return paper_of_shortest(plant, views, [number])


def is_forced(plant, views, thing):
    """True if the thing is a paper of some run."""
    check_views(views)
    return is_paper(plant, views, thing)


def keepable(plant, views):
    """True if no forced run contains a barred step."""
    check_views(views)
    return shortest_forced(plant, views, plant.barred) is None


def breach(plant, views):
    """The paper of the shortest, then least, forced run whose last step is barred, or None."""
    check_views(views)
    return paper_of_shortest(plant, views, plant.barred)


def is_state_of(states, thing):
    """True if the thing is one of the states that are the keys of the dict."""
    return is_integer(thing) and thing in states


def are_ends(states, thing):
    """True for a strictly ascending tuple of the states that are the keys of the dict."""
    if not isinstance(thing, tuple) or not all([is_state_of(states, item) for item in thing]):
        return False
    return list(thing) == sorted(set(thing))


def is_standing(states, size, thing):
    """True for a tuple of one of the states and of the ends for so many views."""
    if not is_tuple_of(thing, size + 1) or not is_state_of(states, thing[0]):
        return False
    return all([are_ends(states, item) for item in thing[1:]])


def is_closed(plant, forcing, told):
    """True if the list has the first standing and what forced steps lead to, none of them barred."""
    given = set(told)
    barred = set(plant.barred)
    if forcing.first_standing() not in given:
        return False
    for standing in sorted(given):
        for number, after in forcing.forced_from(standing):
            if number in barred or after not in given:
                return False
    return True


def is_cover(plant, views, thing):
    """True if the thing is a list that shows that no forced run contains a barred step."""
    check_views(views)
    if not isinstance(thing, list):
        return False
    states = {state: True for state in plant.states}
    if not all([is_standing(states, len(views), item) for item in thing]):
        return False
    return is_closed(plant, Forcing(plant, views), [with_bits(item) for item in thing])


def exact(plant, views):
    """True if every forced run is a wanted run."""
    check_views(views)
    return shortest_forced(plant, views, not_wanted(plant)) is None


def beyond(plant, views):
    """The paper of the shortest, then least, forced run that is not a wanted run, or None."""
    check_views(views)
    return paper_of_shortest(plant, views, not_wanted(plant))
