"""The tables of guards: walks over pairs of places, and the smallest table.

A place is the number of a node, or None for SHUT. Moves are a dict of pairs (node, sight) to nodes.
As no key of it begins with None, get tells both that a sight without a move leads to SHUT and that
every sight leads from SHUT to SHUT.
"""


def sights_in(moves):
    """The ascending list of the sights of the moves."""
    return sorted({sight for node, sight in moves})


def path_to(met, last):
    """What leads to the last thing, in order.

    Each thing in met stands with the thing before it and what leads from there, the first with None.
    """
    path = []
    thing = last
    while met[thing] is not None:
        path.append(met[thing][1])
        thing = met[thing][0]
    return path[::-1]


def is_followed(pair, nodes_only):
    """True unless the pair is SHUT twice, or, where only nodes are asked for, SHUT once."""
    one, other = pair
    if nodes_only:
        return one is not None and other is not None
    return one is not None or other is not None


def pair_after(pair, sight, moves, more):
    """The pair to which the sight leads from this one, with one place in each of both moves."""
    return (moves.get((pair[0], sight)), more.get((pair[1], sight)))


def met_pairs(moves, more, nodes_only):
    """The followed pairs that rows of sights lead to, for path_to.

    They stand in the order of their shortest, then least, rows.
    """
    sights = sights_in([*moves, *more])
    met = {(0, 0): None}
    queue = [(0, 0)]
    done = 0
    while done < len(queue):
        for sight in sights:
            pair = pair_after(queue[done], sight, moves, more)
            if pair not in met and is_followed(pair, nodes_only):
                met[pair] = (queue[done], sight)
                queue.append(pair)
        done += 1
    return met


def moves_of_pairs(pairs, moves, more):
    """The moves between the pairs, each pair taken as a node with its index as number."""
    sights = sights_in([*moves, *more])
    numbers = {pair: number for number, pair in enumerate(pairs)}
    joined = {}
    for pair in pairs:
        for sight in sights:
            target = pair_after(pair, sight, moves, more)
            if target in numbers:
                joined[(numbers[pair], sight)] = numbers[target]
    return joined


def grouped(marks):
    """For each place a number, which two places share if their marks are equal."""
    numbers = {}
    groups = {}
    for place in marks:
        mark = marks[place]
        if mark not in numbers:
            numbers[mark] = len(numbers)
        groups[place] = numbers[mark]
    return groups


def split_groups(groups, moves, sights):
    """The groups, split where some sight leads from one group into several."""
    marks = {}
    for place in groups:
        targets = tuple([groups[moves.get((place, sight))] for sight in sights])
        marks[place] = (groups[place], targets)
    return grouped(marks)


def groups_alike(moves, held, shut_held):
    """For each place a number, which two places share if they hold alike for ever."""
    marks = {None: shut_held}
    for node, words in enumerate(held):
        marks[node] = words
    sights = sights_in(moves)
    groups = grouped(marks)
    finer = split_groups(groups, moves, sights)
    # Groups are numbered in the order of their first places, so equal groups have equal numbers.
    while finer != groups:
        groups = finer
        finer = split_groups(groups, moves, sights)
    return groups


def smallest_table(moves, held, shut_held):
    """The moves and the held words of the smallest table that holds alike with this one."""
    groups = groups_alike(moves, held, shut_held)
    sights = sights_in(moves)
    numbers = {groups[0]: 0}
    nodes = [0]
    fewer = {}
    done = 0
    while done < len(nodes):
        for sight in sights:
            node = moves.get((nodes[done], sight))
            group = groups[node]
            if group == groups[None]:
                continue
            if group not in numbers:
                numbers[group] = len(nodes)
                nodes.append(node)
            fewer[(done, sight)] = numbers[group]
        done += 1
    return fewer, [held[node] for node in nodes]
