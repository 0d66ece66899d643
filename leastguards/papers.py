"""Papers: for each step of a run, and for each view that can hold it, a reason to let it.

A reason is a wanted run that the view cannot tell from the run so far and that goes on by a wanted
step with the same word.
"""

from leastguards.errors import BadRun
from leastguards.plants import numbers_by_state
from leastguards.runs import sights_of, steps_of
from leastguards.tables import path_to


def seen_after(sights, many, sight):
    """How many of the sights have been seen after one step more, or None if it shows another sight.

    The sight of an unseen step is None.
    """
    if sight is None:
        return many
    if many < len(sights) and sights[many] == sight:
        return many + 1
    return None


def met_ways(plant, view, sights):
    """The pairs (how many of the sights are seen, state) of wanted runs, for path_to.

    They stand in the order of their shortest wanted runs.
    """
    steps = plant.steps
    leaving = numbers_by_state(steps)
    wanted = set(plant.wanted)
    sight_table = view.sights
    met = {(0, plant.start): None}
    queue = [(0, plant.start)]
    done = 0
    while done < len(queue):
        many, state = queue[done]
        for number in leaving.get(state, []):
            source, word, target = steps[number]
            after = seen_after(sights, many, sight_table.get(word))
            if number in wanted and after is not None and (after, target) not in met:
                met[(after, target)] = (queue[done], number)
                queue.append((after, target))
        done += 1
    return met


def wanted_by_word(plant):
    """The numbers of the wanted steps in an ascending list for each word that they have."""
    steps = plant.steps
    numbers = {}
    for number in plant.wanted:
        numbers.setdefault(steps[number][1], []).append(number)
    return numbers


def reasons_of_view(plant, view, run):
    """The list of the parts of a paper of this forced run for one view, one part for each step."""
    steps = plant.steps
    wanted = wanted_by_word(plant)
    sight_table = view.sights
    holds = view.holds
    met = met_ways(plant, view, sights_of(plant, view, run))
    turns = {way: turn for turn, way in enumerate(met)}
    many = 0
    parts = []
    for number in run:
        word = steps[number][1]
        if word in holds:
            ways = [(turns[(many, steps[last][0])], last) for last in wanted[word]
                    if (many, steps[last][0]) in turns]
            turn, last = min(ways)
            path = path_to(met, (many, steps[last][0]))
            parts.append((*path, last))
        else:
            parts.append(None)
        if word in sight_table:
            many += 1
    return parts


def paper_of(plant, views, run):
    """The paper of this forced run, with reasons of as few steps as possible."""
    columns = [reasons_of_view(plant, view, run) for view in views]
    return (run, tuple([tuple(parts) for parts in zip(*columns)]))


def steps_if_run(plant, thing):
    """The list of the steps of the thing, or None if it is not a run."""
    try:
        return steps_of(plant, thing)
    except BadRun:
        return None


def is_reason(plant, view, sights, word, thing):
    """True if the thing is a wanted run with these sights and then a last step with this word."""
    done = steps_if_run(plant, thing)
    if not done or done[-1][1] != word:
        return False
    wanted = set(plant.wanted)
    sight_table = view.sights
    seen = [sight_table[step[1]] for step in done[:-1] if step[1] in sight_table]
    return seen == sights and all([number in wanted for number in thing])


def are_reasons(plant, view, run, parts):
    """True if the parts, one for each step of the run, are right for this view."""
    steps = plant.steps
    sights = sights_of(plant, view, run)
    sight_table = view.sights
    holds = view.holds
    many = 0
    for number, part in zip(run, parts):
        word = steps[number][1]
        if word not in holds and part is not None:
            return False
        if word in holds and not is_reason(plant, view, sights[:many], word, part):
            return False
        if word in sight_table:
            many += 1
    return True


def is_tuple_of(thing, size):
    """True for a tuple with so many items."""
    return isinstance(thing, tuple) and len(thing) == size


def is_paper(plant, views, thing):
    """True if the thing is a paper of some run."""
    if not is_tuple_of(thing, 2):
        return False
    run, reasons = thing
    if steps_if_run(plant, run) is None or not is_tuple_of(reasons, len(run)):
        return False
    if not all([is_tuple_of(item, len(views)) for item in reasons]):
        return False
    for at, view in enumerate(views):
        if not are_reasons(plant, view, run, [item[at] for item in reasons]):
            return False
    return True
