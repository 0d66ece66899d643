"""The ends of the wanted runs with a row of sights, found from sight to sight.

Ends are told as an ascending tuple of states. It is empty if no wanted run has these sights.
"""

from leastguards.plants import states_from


def wanted_by_sight(plant, view):
    """The wanted steps in a list for each sight of their words; those of unseen words under None."""
    steps = plant.steps
    sights = view.sights
    table = {None: []}
    for number in plant.wanted:
        step = steps[number]
        table.setdefault(sights.get(step[1]), []).append(step)
    return table


def first_ends(plant, table):
    """The ends of the wanted runs without sights."""
    return tuple(states_from([plant.start], table[None]))


def ends_after(table, ends, sight):
    """The ends that follow these ends with one sight more."""
    targets = [step[2] for step in table.get(sight, []) if step[0] in ends]
    return tuple(states_from(targets, table[None]))
