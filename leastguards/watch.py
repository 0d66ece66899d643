"""The rule by which forced runs go on: what each view has seen so far, and what it must let.

Ends are told here as one integer, in which the bit of each of their states is set, as a search
meets very many of them. A standing is told as a tuple of a state and of the ends for each view.
"""

from leastguards.ends import first_ends, wanted_by_sight
from leastguards.errors import TooMany
from leastguards.plants import numbers_by_state, states_from

MOST_STANDINGS = 2000


def bits_of(states):
    """The integer in which the bits of these states, all of them different, are set."""
    return sum([1 << state for state in states])


def states_in(bits):
    """The ascending tuple of the states whose bits are set."""
    return tuple([state for state in range(bits.bit_length()) if (bits >> state) & 1 == 1])


def passes_by_sight(table):
    """For each sight its wanted steps, each as the bit of its source and the bits of its ends.

    The ends of a step are its target and the states that unseen wanted steps reach from there.
    """
    passes = {}
    for sight in table:
        passes[sight] = [(1 << step[0], bits_of(states_from([step[2]], table[None])))
                         for step in table[sight]]
    return passes


def sources_by_word(plant, words):
    """For each of the words the bits of the states where wanted steps with this word begin."""
    steps = plant.steps
    sources = {word: 0 for word in words}
    for number in plant.wanted:
        source, word, target = steps[number]
        if word in sources:
            sources[word] = sources[word] | (1 << source)
    return sources


class Watch:
    """What one view of a plant sees of runs, and what it must let."""

    def __init__(self, plant, view):
        table = wanted_by_sight(plant, view)
        self.sight_table = view.sights
        self.first_bits = bits_of(first_ends(plant, table))
        self.passes = passes_by_sight(table)
        self.sources = sources_by_word(plant, view.holds)
        # The ends that have been asked for before, as many standings share them.
        self.known_ends = {}

    def must_let(self, bits, word):
        """True if the view cannot hold the word, or a wanted step with it leaves these ends."""
        return word not in self.sources or (self.sources[word] & bits) != 0

    def ends_past(self, bits, word):
        """The ends that follow these ends after a step with this word."""
        sight = self.sight_table.get(word)
        if sight is None:
            return bits
        if (bits, sight) not in self.known_ends:
            self.known_ends[(bits, sight)] = self.ends_with(bits, sight)
        return self.known_ends[(bits, sight)]

    def ends_with(self, bits, sight):
        """The ends that follow these ends with this sight more."""
        after = 0
        for source, ends in self.passes.get(sight, []):
            if source & bits != 0:
                after = after | ends
        return after


class Forcing:
    """The rule of forced runs for a plant and several views."""

    def __init__(self, plant, views):
        self.first_state = plant.start
        self.step_list = plant.steps
        self.leaving = numbers_by_state(plant.steps)
        self.watches = [Watch(plant, view) for view in views]

    def first_standing(self):
        """The standing after the empty run."""
        ends = [watch.first_bits for watch in self.watches]
        return (self.first_state, *ends)

    def forced_from(self, standing):
        """The numbers of the forced steps, in ascending order, each with what it leads to."""
        state, *ends = standing
        found = []
        for number in self.leaving.get(state, []):
            source, word, target = self.step_list[number]
            if all([watch.must_let(bits, word) for watch, bits in zip(self.watches, ends)]):
                after = [watch.ends_past(bits, word) for watch, bits in zip(self.watches, ends)]
                found.append((number, (target, *after)))
        return found

    def met_standings(self):
        """The standings after forced runs, for path_to.

        They stand in the order of their shortest, then least, runs.
        """
        first = self.first_standing()
        met = {first: None}
        queue = [first]
        done = 0
        while done < len(queue):
            steps = self.forced_from(queue[done])
            for number, standing in steps:
                if standing not in met:
                    met[standing] = (queue[done], number)
                    queue.append(standing)
            if len(queue) > MOST_STANDINGS:
                raise TooMany(MOST_STANDINGS)
            done += 1
        return met
