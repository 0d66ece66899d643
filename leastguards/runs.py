"""Runs of a plant, what a view sees of them, and the ends of wanted runs."""

from leastguards.ends import ends_after, first_ends, wanted_by_sight
from leastguards.errors import BadRun, BadSights
from leastguards.kinds import is_index, is_name, is_row


def steps_of(plant, run):
    """The list of the steps of the run; BadRun is raised if it is not a run of the plant."""
    if not isinstance(run, tuple):
        raise BadRun(-1)
    steps = plant.steps
    state = plant.start
    done = []
    for at, number in enumerate(run):
        if not is_index(number, len(steps)) or steps[number][0] != state:
            raise BadRun(at)
        done.append(steps[number])
        state = steps[number][2]
    return done


def end_of(plant, run):
    """The state where the run ends."""
    done = steps_of(plant, run)
    if not done:
        return plant.start
    return done[-1][2]


def is_wanted(plant, run):
    """True if all steps of the run are wanted."""
    steps_of(plant, run)
    wanted = set(plant.wanted)
    return all([number in wanted for number in run])


def sights_of(plant, view, run):
    """The list of the sights of the steps whose words the view sees."""
    sights = view.sights
    return [sights[step[1]] for step in steps_of(plant, run) if step[1] in sights]


def alike(plant, view, one, other):
    """True if the view sees the same of both runs."""
    return sights_of(plant, view, one) == sights_of(plant, view, other)


def wanted_ends(plant, view, sights):
    """The ascending list of the ends of all wanted runs that have these sights."""
    if not is_row(sights):
        raise BadSights(-1)
    table = wanted_by_sight(plant, view)
    ends = first_ends(plant, table)
    for at, sight in enumerate(sights):
        if not is_name(sight):
            raise BadSights(at)
        ends = ends_after(table, ends, sight)
        if not ends:
            raise BadSights(at)
    return list(ends)
