"""Choices of words to see and to hold, and of wanted steps to give up, so that a plant is kept."""

from leastguards.errors import BadCosts, BadEntry, TooMany
from leastguards.forced import breach, check_views, is_forced, keepable
from leastguards.kinds import is_integer, is_name, is_row
from leastguards.papers import is_tuple_of
from leastguards.views import View, check_words, seeing

MOST_AMONG = 8
MOST_PRICED = 4
HIGHEST_COST = 1000000


def check_among(among, allowed):
    """Raise BadEntry, or TooMany, unless among is a row of at most 8 different allowed items."""
    if not is_row(among):
        raise BadEntry(None)
    if len(among) > MOST_AMONG:
        raise TooMany(MOST_AMONG)
    earlier = set()
    for item in among:
        if not is_name(item) and not is_integer(item):
            raise BadEntry(item)
        if item not in allowed or item in earlier:
            raise BadEntry(item)
        earlier.add(item)


def check_costs(plant, costs):
    """Raise BadCosts unless costs is a dict of at most 4 words of the plant to their costs."""
    if not isinstance(costs, dict) or len(costs) > MOST_PRICED:
        raise BadCosts(None)
    words = plant.words
    for word, cost in costs.items():
        if not is_name(word) or word not in words:
            raise BadCosts(word)
        if not is_integer(cost) or not 1 <= cost <= HIGHEST_COST:
            raise BadCosts(word)


def subsets_of(items):
    """All sets of some of the items, as ascending tuples: by length first, then ascending."""
    found = [()]
    for item in sorted(items):
        found = found + [(*some, item) for some in found]
    return sorted(found, key=lambda some: (len(some), some))


def is_within(some, other):
    """True if all items of some are in other, too."""
    return all([item in other for item in some])


def least_sets(items, does):
    """The least ones of the sets of some of the items for which does returns True."""
    least = []
    for some in subsets_of(items):
        # Each set is asked about, as one with too many standings refuses the whole question.
        if does(some) and not any([is_within(less, some) for less in least]):
            least.append(some)
    return least


def least_sights(plant, holds, among):
    """The least sets of the words that keep the plant if they are seen and holds can be held."""
    check_words(holds)
    check_among(among, plant.words)
    return least_sets(among, lambda some: keepable(plant, [seeing(some, holds)]))


def least_holds(plant, sights, among):
    """The least sets of the words that keep the plant if they can be held with these sights."""
    view = View(sights)
    check_among(among, plant.words)
    return least_sets(among, lambda some: keepable(plant, [View(view.sights, some)]))


def least_given_up(plant, views, among):
    """The least sets of the numbers that keep the plant if these steps are no longer wanted."""
    check_views(views)
    check_among(among, plant.wanted)
    return least_sets(among, lambda some: keepable(plant.giving_up(some), views))


def pairs_of(see, hold):
    """All pairs of a set of words of see and a set of words of hold; the whole sets come last."""
    return [(seen, held) for seen in subsets_of(see) for held in subsets_of(hold)]


def cost_of(see, hold, pair):
    """The sum of the costs of the words of the pair."""
    return sum([see[word] for word in pair[0]]) + sum([hold[word] for word in pair[1]])


def words_in(pair):
    """The number of the words of the pair, both sets counted together."""
    return len(pair[0]) + len(pair[1])


def is_pair_within(pair, other):
    """True if both sets of the pair are within those of the other one."""
    return is_within(pair[0], other[0]) and is_within(pair[1], other[1])


def papers_against(plant, pairs):
    """Items of a list against a cost, one for each greatest of these pairs, which keep nothing."""
    greatest = []
    for pair in sorted(pairs, key=words_in, reverse=True):
        if not any([is_pair_within(pair, other) for other in greatest]):
            greatest.append(pair)
    return [(seen, held, breach(plant, [seeing(seen, held)])) for seen, held in greatest]


def cheapest(plant, see, hold):
    """The least cost of a pair that keeps the plant, the pair, and a list against this cost."""
    check_costs(plant, see)
    check_costs(plant, hold)
    pairs = pairs_of(see, hold)
    keeping = [pair for pair in pairs if keepable(plant, [seeing(pair[0], pair[1])])]
    if pairs[-1] not in keeping:
        return None
    best = min(keeping, key=lambda pair: (cost_of(see, hold, pair), words_in(pair), pair))
    cost = cost_of(see, hold, best)
    cheaper = [pair for pair in pairs if cost_of(see, hold, pair) < cost]
    return (cost, best[0], best[1], papers_against(plant, cheaper))


def is_set_of(words, thing):
    """True for a strictly ascending tuple of some of the words."""
    if not isinstance(thing, tuple):
        return False
    if not all([is_name(item) and item in words for item in thing]):
        return False
    return list(thing) == sorted(set(thing))


def is_item_against(plant, see, hold, thing):
    """True for a pair with the paper of a forced run by this pair whose last step is barred."""
    if not is_tuple_of(thing, 3) or not is_set_of(see, thing[0]) or not is_set_of(hold, thing[1]):
        return False
    seen, held, paper = thing
    if not is_forced(plant, [seeing(seen, held)], paper):
        return False
    run = paper[0]
    return len(run) > 0 and run[-1] in plant.barred


def is_against(plant, see, hold, cost, thing):
    """True if the thing is a list that shows that no pair of less than this cost keeps the plant."""
    check_costs(plant, see)
    check_costs(plant, hold)
    if not is_integer(cost) or not isinstance(thing, list):
        return False
    if not all([is_item_against(plant, see, hold, item) for item in thing]):
        return False
    for pair in pairs_of(see, hold):
        if cost_of(see, hold, pair) < cost and not any([is_pair_within(pair, item) for item in thing]):
            return False
    return True
