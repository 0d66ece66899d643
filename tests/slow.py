"""Slow searches that follow the words of the document, and small plants, views and guards.

They look at all short runs and all short rows of sights, and use no function of the program but the
properties of plants, views and guards. The random numbers are the same in each run of the tests.
"""

import itertools
import random

from leastguards.guards import Guard
from leastguards.plants import Plant
from leastguards.views import View

WORDS = ["go", "low", "up"]
SIGHTS = ["a", "b"]


def end_of_run(plant, run):
    return plant.steps[run[-1]][2] if run else plant.start


def is_wanted_run(plant, run):
    return all(number in plant.wanted for number in run)


def runs_up_to(plant, length):
    """All runs of at most so many steps: shorter ones first, and of equal length in order."""
    found, last = [()], [()]
    for _ in range(length):
        last = [run + (number,) for run in last for number, step in enumerate(plant.steps)
                if step[0] == end_of_run(plant, run)]
        found += last
    return found


def wanted_runs_up_to(plant, length):
    return [run for run in runs_up_to(plant, length) if is_wanted_run(plant, run)]


def rows_up_to(sights, length):
    """All rows of at most so many sights: shorter ones first, and of equal length in order."""
    return [list(row) for size in range(length + 1)
            for row in itertools.product(sorted(sights), repeat=size)]


def sights_of_run(plant, view, run):
    words = [plant.steps[number][1] for number in run]
    return [view.sights[word] for word in words if word in view.words]


def held_after(guard, row):
    """The ascending list of the words that the guard holds after the row, as [21] says."""
    place = 0
    for sight in row:
        if place != "SHUT":
            place = guard.moves.get((place, sight), "SHUT")
    if place == "SHUT":
        return guard.view.holds
    return list(guard.held[place])


def is_held_by(plant, guard, run, word):
    """True if the guard holds a step with this word after the run, as [29] says."""
    view = guard.view
    return word in view.holds and word in held_after(guard, sights_of_run(plant, view, run))


def let_words(plant, guards, run):
    """The numbers of the steps that go on after the run and are held by no guard."""
    return [number for number, step in enumerate(plant.steps)
            if step[0] == end_of_run(plant, run)
            and not any(is_held_by(plant, guard, run, step[1]) for guard in guards)]


def let_runs_up_to(plant, guards, length):
    """The let runs of at most so many steps, in the order of runs_up_to."""
    found, last = [()], [()]
    for _ in range(length):
        last = [run + (number,) for run in last for number in let_words(plant, guards, run)]
        found += last
    return found


def some_of(source, things):
    return [thing for thing in things if source.random() < 0.5]


def make_plant(source, states=3, most=5):
    """A plant of few states and steps, of which more are wanted than not."""
    steps = []
    for _ in range(source.randint(2, most)):
        step = (source.randrange(states), source.choice(WORDS), source.randrange(states))
        if step not in steps:
            steps.append(step)
    wanted = [number for number in range(len(steps)) if source.random() < 0.7]
    barred = [number for number in range(len(steps)) if number not in wanted]
    return Plant(0, steps, wanted, some_of(source, barred))


def make_view(source):
    """A view that gives one of two sights to some of the words, and can hold some words."""
    sights = {word: source.choice(SIGHTS) for word in WORDS if source.random() < 0.7}
    return View(sights, some_of(source, WORDS + ["halt"]))


def make_guard(source, view, most=4):
    """A guard of this view with few nodes."""
    size = source.randint(1, most)
    sights = sorted(set(view.sights.values()))
    moves = {(node, sight): source.randrange(size) for node in range(size) for sight in sights
             if source.random() < 0.8}
    return Guard(view, moves, [some_of(source, view.holds) for _ in range(size)])


def cases(many, seed):
    """So many sources of random numbers, the same ones in each run of the tests."""
    return [random.Random(1000 * seed + number) for number in range(many)]


def ends_of_sights(plant, view, sights):
    """The ends of all wanted runs with these sights, over pairs (how many are seen, state)."""
    pairs = {(0, plant.start)}
    while True:
        more = set()
        for many, state in pairs:
            for number in plant.wanted:
                source, word, target = plant.steps[number]
                sight = view.sights.get(word)
                if source == state and sight is None:
                    more.add((many, target))
                elif source == state and sights[many:many + 1] == [sight]:
                    more.add((many + 1, target))
        if more <= pairs:
            return tuple(sorted(state for many, state in pairs if many == len(sights)))
        pairs |= more


def standing_after(plant, views, run):
    """The standing after the run, as [35] says."""
    ends = [ends_of_sights(plant, view, sights_of_run(plant, view, run)) for view in views]
    return (end_of_run(plant, run), *ends)


def forced_numbers(plant, views, run):
    """The numbers of the steps that are forced after the run, as [34] says."""
    ends = standing_after(plant, views, run)[1:]
    wanted = [plant.steps[number] for number in plant.wanted]
    return [number for number, step in enumerate(plant.steps)
            if step[0] == end_of_run(plant, run)
            and all(word_leaves(wanted, states, step[1])
                    for view, states in zip(views, ends) if step[1] in view.holds)]


def word_leaves(steps, states, word):
    return any(step[0] in states and step[1] == word for step in steps)


def forced_runs_up_to(plant, views, length):
    """The forced runs of at most so many steps, in the order of runs_up_to."""
    found, last = [()], [()]
    for _ in range(length):
        last = [run + (number,) for run in last for number in forced_numbers(plant, views, run)]
        found += last
    return found


def all_standings(plant, views):
    """The ascending list of all standings, each found by one run."""
    found, waiting = {standing_after(plant, views, ())}, [()]
    while waiting:
        run = waiting.pop()
        for number in forced_numbers(plant, views, run):
            standing = standing_after(plant, views, run + (number,))
            if standing not in found:
                found.add(standing)
                waiting.append(run + (number,))
    return sorted(found)


def is_good_reason(plant, view, run, word, reason):
    """True if the tuple is a reason to let the word after the run, as [38] says."""
    return (is_a_run(plant, reason) and len(reason) > 0 and is_wanted_run(plant, reason)
            and plant.steps[reason[-1]][1] == word
            and sights_of_run(plant, view, reason[:-1]) == sights_of_run(plant, view, run))


def is_a_run(plant, numbers):
    """True if each step of the tuple begins where the one before ends."""
    states = [plant.start] + [plant.steps[number][2] for number in numbers]
    return all(plant.steps[number][0] == state for number, state in zip(numbers, states))


def is_good_paper(plant, views, run, reasons):
    """True if the reasons, a tuple of tuples, are those of a paper of the run, as [38] says."""
    if len(reasons) != len(run) or not is_a_run(plant, run):
        return False
    for at, item in enumerate(reasons):
        word = plant.steps[run[at]][1]
        if len(item) != len(views):
            return False
        for view, part in zip(views, item):
            if word not in view.holds and part is not None:
                return False
            if word in view.holds and (
                    part is None or not is_good_reason(plant, view, run[:at], word, part)):
                return False
    return True


def make_views(source, most=3):
    """One to three views, which see less often and hold more than those of make_view."""
    views = []
    for _ in range(source.randint(1, most)):
        sights = {word: source.choice(SIGHTS) for word in WORDS if source.random() < 0.5}
        views.append(View(sights, [word for word in WORDS + ["halt"] if source.random() < 0.6]))
    return views


def subsets_of(items):
    """All ascending tuples of some of the items: by length first, then in ascending order."""
    return [some for size in range(len(items) + 1)
            for some in itertools.combinations(sorted(items), size)]


def least_of(items, does):
    """The least sets of the items with which does returns True, by the words of [44]."""
    good = [some for some in subsets_of(items) if does(some)]
    return [some for some in good if not any(set(other) < set(some) for other in good)]
