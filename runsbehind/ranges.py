"""Counts that are known between two bounds: which COUNTS there are within, and how often these go a PATH."""

from runsbehind.basics import is_number, is_set_of, plain, steps
from runsbehind.counts import inner_blocks, is_counts
from runsbehind.errors import NoCounts
from runsbehind.graphs import entry_of, exit_of, need_block
from runsbehind.paths import greatest_gone, least_gone
from runsbehind.rounds import bar_at, cheapest, round_arcs, settled, sum_span, weighted


def is_ranges(graph, thing):
    """Whether thing is RANGES of the GRAPH."""
    if not isinstance(thing, tuple) or len(thing) != len(graph):
        return False
    return all([is_range(part) for part in thing])


def is_range(thing):
    """Whether thing is a pair (low, high) of numbers from 0, low not above high."""
    if not isinstance(thing, tuple) or len(thing) != 2 or not all([is_number(part) for part in thing]):
        return False
    return 0 <= thing[0] <= thing[1]


def is_within(graph, ranges, thing):
    """Whether thing is COUNTS within the RANGES."""
    if not is_counts(graph, thing):
        return False
    return all([low <= count <= high for count, (low, high) in zip(thing, plain(ranges))])


def can_fit(graph, ranges):
    """Whether there are COUNTS within the RANGES."""
    return counts_within(graph, ranges) is not None


def counts_within(graph, ranges):
    """COUNTS within the RANGES; None if there are none."""
    return settled_arcs(round_arcs(graph, ranges))


def settled_arcs(arcs):
    """Numbers of the arcs that go round; None if there are none."""
    numbers, stuck = settled(arcs, [low for _, _, low, _ in arcs])
    return None if stuck else numbers


def range_bar(graph, ranges):
    """A bar of the RANGES; None if there is none."""
    arcs = round_arcs(graph, ranges)
    _, stuck = settled(arcs, [low for _, _, low, _ in arcs])
    return bar_at(graph, stuck) if stuck else None


def is_range_bar(graph, ranges, thing):
    """Whether thing is a bar of the RANGES."""
    if not is_side(graph, thing):
        return False
    some, way = thing
    edges, bounds = plain(graph), plain(ranges)
    into = [at for at, (begin, end) in enumerate(edges) if end in some and begin not in some]
    out = [at for at, (begin, end) in enumerate(edges) if begin in some and end not in some]
    first, second = (into, out) if way == "in" else (out, into)
    return sum([bounds[at][0] for at in first]) > sum([bounds[at][1] for at in second])


def is_side(graph, thing):
    """Whether thing is a pair of a set of one or more inner blocks and "in" or "out"."""
    if not isinstance(thing, tuple) or len(thing) != 2 or thing[0] == ():
        return False
    return is_set_of(inner_blocks(graph), thing[0]) and thing[1] in ("in", "out")


def need_counts(graph, ranges):
    """COUNTS within the RANGES; raises NoCounts if there are none."""
    numbers = counts_within(graph, ranges)
    if numbers is None:
        raise NoCounts()
    return numbers


def sharp_ranges(graph, ranges):
    """The RANGES, as narrow as can be, within which there are the same COUNTS; raises NoCounts if there are none."""
    numbers, arcs = need_counts(graph, ranges), round_arcs(graph, ranges)
    edges = plain(graph)
    return tuple([sum_span(arcs, numbers, [int(known == edge) for known in edges]) for edge in edges])


def is_sharp(graph, ranges):
    """Whether the RANGES are as narrow as can be; raises NoCounts if no COUNTS are within."""
    return sharp_ranges(graph, ranges) == plain(ranges)


def loose_edges(graph, ranges):
    """The set of the EDGES with unlike counts in some two COUNTS within; raises NoCounts if there are none."""
    return tuple([edge for edge, (low, high) in zip(plain(graph), sharp_ranges(graph, ranges)) if low < high])


def total_range(graph, ranges):
    """The pair of the least and the greatest TOTAL of COUNTS within; raises NoCounts if there are none."""
    return through_range(graph, ranges, entry_of(graph))


def through_range(graph, ranges, block):
    """The pair of the least and the greatest THROUGH of the block in COUNTS within; raises NoBlock, then NoCounts."""
    need_block(graph, block)
    numbers = need_counts(graph, ranges)
    side = 1 if block == exit_of(graph) else 0
    weights = [int(edge[side] == block) for edge in plain(graph)]
    return sum_span(round_arcs(graph, ranges), numbers, weights)


def path_weights(graph, path):
    """For each EDGE how often its count is in those of the PATH, less the THROUGHs of the inner blocks of the PATH."""
    path = plain(path)
    gone, inner = steps(path), path[1:-1]
    return [int(edge in gone) - int(edge[0] in inner) for edge in plain(graph)]


def path_range(graph, ranges, path):
    """The pair of the least and the greatest number of times that LOTS with COUNTS within go the PATH."""
    numbers, weights = need_counts(graph, ranges), path_weights(graph, path)
    least = weighted(cheapest(round_arcs(graph, ranges), numbers, weights), weights)
    return max(0, least), greatest_at_once(graph, ranges, path)


def raised_arcs(graph, ranges, path, number):
    """The arcs of the EDGES, those of the PATH with at least this number as their low."""
    gone = steps(plain(path))
    return [(begin, end, max(low, number) if edge in gone else low, high)
            for edge, (begin, end, low, high) in zip(plain(graph), round_arcs(graph, ranges))]


def greatest_at_once(graph, ranges, path):
    """The greatest number that all EDGES of the PATH can have at once at least; there must be COUNTS within."""
    gone = steps(plain(path))
    number = min([high for edge, (_, high) in zip(plain(graph), plain(ranges)) if edge in gone])
    arcs = raised_arcs(graph, ranges, path, number)
    _, stuck = settled(arcs, [low for _, _, low, _ in arcs])
    # What bars one number tells how great one can be at the most: so the next one to try is never too small.
    while stuck:
        number = most_unbarred(graph, ranges, gone, number, bar_at(graph, stuck))
        arcs = raised_arcs(graph, ranges, path, number)
        _, stuck = settled(arcs, [low for _, _, low, _ in arcs])
    return number


def most_unbarred(graph, ranges, gone, number, bar):
    """A number, less than this one, which the bar bars, that none is above which the bar does not bar."""
    some, way = bar
    side, back = (1, 0) if way == "in" else (0, 1)
    room, many = 0, 0
    for edge, (low, high) in zip(plain(graph), plain(ranges)):
        if edge[back] in some and edge[side] not in some:
            room += high
        if edge[side] in some and edge[back] not in some:
            raised = edge in gone and low < number
            room -= 0 if raised else low
            many += int(raised)
    return room // many


def counts_for(graph, ranges, path, number):
    """COUNTS within that some LOT has that goes the PATH just so often; None if there are none."""
    need_counts(graph, ranges)
    arcs = raised_arcs(graph, ranges, path, number)
    if not all([low <= high for _, _, low, high in arcs]):
        return None
    numbers = settled_arcs(arcs)
    if numbers is None:
        return None
    best = cheapest(arcs, numbers, path_weights(graph, path))
    return best if least_gone(graph, best, path) <= number else None


def is_counts_for(graph, ranges, path, number, thing):
    """Whether thing is COUNTS within that some LOT has that goes the PATH just so often."""
    need_counts(graph, ranges)
    if not is_within(graph, ranges, thing):
        return False
    return least_gone(graph, thing, path) <= number <= greatest_gone(graph, thing, path)
