"""Which counters on EDGES and blocks are enough to tell all counts, and what those tell that are there."""

from runsbehind.basics import is_number, is_set_of, plain
from runsbehind.counts import is_counts, throughs, unbalanced
from runsbehind.errors import NoCounts, Unfit
from runsbehind.graphs import blocks, entry_of, exit_of

NONE = ((), ())


def is_counters(graph, thing):
    """Whether thing is COUNTERS of the GRAPH."""
    if not isinstance(thing, tuple) or len(thing) != 2:
        return False
    return is_set_of(plain(graph), thing[0]) and is_set_of(blocks(graph), thing[1])


def shown(graph, counters, counts):
    """The pair of the tuples of the counts and of the THROUGHs that the COUNTERS show."""
    edges, places = plain(counters)
    many, passed = dict(zip(plain(graph), counts)), throughs(graph, counts)
    return tuple([many[edge] for edge in edges]), tuple([passed[name] for name in places])


def watched(graph, told):
    """What is told of blocks, the same told of entry and exit if it is told of one of both."""
    # Both have the same THROUGH, the TOTAL.
    first, last = entry_of(graph), exit_of(graph)
    both = {name: told[name] for name in told}
    if first in told or last in told:
        both[first] = told.get(first, told.get(last))
        both[last] = told.get(last, both[first])
    return both


def knots(graph, places):
    """For each EDGE the pair of the knots that it leads from and to: at each knot the numbers of SWINGS come to 0."""
    told = watched(graph, {name: True for name in places})
    ends = (entry_of(graph), exit_of(graph))
    return [(knot_of(edge, 0, told, ends), knot_of(edge, 1, told, ends)) for edge in plain(graph)]


def knot_of(edge, side, told, ends):
    """The knot of the EDGE at this side of it."""
    # A block with a counter is one knot for what leads from it (0), another one for what leads to it (1). Entry and
    # exit are one knot, without a name, unless they have a counter: what leads from the one leads to the other one.
    name = edge[side]
    if name in told:
        return name, side
    return ("", 0) if name in ends else (name, 0)


def rings(graph, counters, order):
    """For each EDGE that closes a ring with those ahead of it in this order, all without a counter, the SWING of it."""
    edges, places = plain(counters)
    joins = dict(zip(plain(graph), knots(graph, places)))
    uncounted = [edge for edge in order if edge not in edges]
    trees = []
    found = {}
    for edge in uncounted:
        way = way_along(trees, joins, joins[edge][1], joins[edge][0])
        if way is None:
            trees.append(edge)
        else:
            signs = dict(way + [(edge, 1)])
            found[edge] = tuple([signs.get(known, 0) for known in joins])
    return found


def way_along(trees, joins, first, last):
    """The list of (EDGE, 1 or -1 if it is gone back) on a way from knot to knot; None if there is none."""
    ways = {first: []}
    queue = [first]
    turn = 0
    while turn < len(queue) and last not in ways:
        here = queue[turn]
        turn += 1
        for edge in trees:
            for sign, begin, end in ((1, joins[edge][0], joins[edge][1]), (-1, joins[edge][1], joins[edge][0])):
                if begin == here and end not in ways:
                    ways[end] = ways[here] + [(edge, sign)]
                    queue.append(end)
    return ways.get(last)


def missed_swings(graph, counters):
    """SWINGS that the COUNTERS miss, of which all others that they miss are made by adding some, maybe often."""
    return list(rings(graph, counters, plain(graph)).values())


def are_enough(graph, counters):
    """Whether the COUNTERS tell all EDGES."""
    return not missed_swings(graph, counters)


def told_edges(graph, counters):
    """The set of the EDGES that the COUNTERS tell."""
    swings = missed_swings(graph, counters)
    return tuple([edge for at, edge in enumerate(plain(graph)) if not any([swing[at] for swing in swings])])


def told_blocks(graph, counters):
    """The set of the blocks that the COUNTERS tell."""
    passed = [throughs(graph, swing) for swing in missed_swings(graph, counters)]
    return tuple([name for name in blocks(graph) if not any([numbers[name] for numbers in passed])])


def missed_swing(graph, counters):
    """A SWING of numbers -1, 0, 1 that the COUNTERS miss; None if they are enough."""
    swings = missed_swings(graph, counters)
    return swings[0] if swings else None


def is_missed_swing(graph, counters, thing):
    """Whether thing is a SWING that the COUNTERS miss."""
    if not isinstance(thing, tuple) or len(thing) != len(graph) or not all([is_number(part) for part in thing]):
        return False
    if not any(thing) or unbalanced(graph, thing) != ():
        return False
    seen = shown(graph, counters, thing)
    return not any(seen[0] + seen[1])


def spare_counters(graph, counters):
    """The pair of the sets of those EDGES and blocks of the COUNTERS that all others of them tell, each by itself."""
    edges, places = plain(counters)
    spare = [edge for edge in edges if edge in told_edges(graph, (without(edges, edge), places))]
    free = [name for name in places if name in told_blocks(graph, (edges, without(places, name)))]
    return tuple(spare), tuple(free)


def without(parts, part):
    """The tuple without this part."""
    return tuple([other for other in parts if other != part])


def more_counters(graph, counters):
    """The least set of as few EDGES as can be with which, put to theirs, the COUNTERS are enough."""
    # Each ring wants a counter. If the EDGES are put in from the last one on, it goes to the least one that can be.
    return tuple(sorted(rings(graph, counters, plain(graph)[::-1])))


def fewest_counters(graph):
    """How many EDGES alone are enough at the least."""
    return len(graph) - len(blocks(graph)) + 2


def least_counters(graph):
    """The least set of as few EDGES as can be that are enough alone."""
    return more_counters(graph, NONE)


def how_many_fewest(graph):
    """How many sets of as few EDGES as can be are enough alone."""
    # The others of such a set are a tree on all knots; how many trees there are is a determinant.
    many = {}
    for one, other in knots(graph, ()):
        for begin, end, sign in ((one, one, 1), (other, other, 1), (one, other, -1), (other, one, -1)):
            many[(begin, end)] = many.get((begin, end), 0) + sign
    inner = [(name, 0) for name in blocks(graph) if name not in (entry_of(graph), exit_of(graph))]
    return determinant([[many.get((one, other), 0) for other in inner] for one in inner])


def determinant(rows):
    """The determinant of whole numbers of which no square in the corner at the first row has the determinant 0."""
    rows = [list(row) for row in rows]
    ahead = 1
    for at in range(len(rows)):
        here = rows[at][at]
        for low in range(at + 1, len(rows)):
            # What is divided here is always a multiple: each number stays the determinant of some of the rows.
            rows[low] = [(here * rows[low][place] - rows[low][at] * rows[at][place]) // ahead
                         for place in range(len(rows))]
        ahead = here
    return ahead


def cheapest_counters(graph, prices):
    """Of the sets of EDGES that are enough the cheapest one, of several that with the fewest EDGES, the least one."""
    ranked = sorted(list(zip(prices, plain(graph))), reverse=True)
    return tuple(sorted(rings(graph, NONE, [edge for _, edge in ranked])))


def least_places(graph):
    """The least set of as few blocks as can be that are enough alone; None if not even all blocks are enough."""
    names = blocks(graph)
    if not are_enough(graph, ((), names)):
        return None
    layer, enough = [()], []
    while not enough:
        layer = [places + (name,) for places in layer for name in names if not places or places[-1] < name]
        enough = [places for places in layer if are_enough(graph, ((), places))]
    return enough[0]


def counts_told(graph, counters, first, second):
    """The COUNTS of which the COUNTERS show these; raises Unfit if they are not enough, NoCounts if there are none."""
    if not are_enough(graph, counters):
        raise Unfit()
    numbers = solved(graph, counters, first, second)
    if not is_counts(graph, numbers) or shown(graph, counters, numbers) != (plain(first), plain(second)):
        raise NoCounts()
    return numbers


def solved(graph, counters, first, second):
    """The numbers of the EDGES that follow from those that enough COUNTERS show, if any follow."""
    edges, places = plain(counters)
    many = dict(zip(edges, first))
    passed = watched(graph, dict(zip(places, second)))
    joins = dict(zip(plain(graph), knots(graph, places)))
    while len(many) < len(joins):
        edge, side = lone_end([known for known in joins if known not in many], joins)
        lack = lack_at(joins[edge][side], many, joins, passed)
        many[edge] = lack if side == 1 else -lack
    return tuple([many[edge] for edge in joins])


def lone_end(lacking, joins):
    """The first pair (EDGE, side) of these EDGES, which have no ring, such that no other one has its knot there."""
    met = [knot for edge in lacking for knot in joins[edge]]
    lone = [(edge, side) for edge in lacking for side in (0, 1) if met.count(joins[edge][side]) == 1]
    return lone[0]


def lack_at(knot, many, joins, passed):
    """How much more must come to this knot, or less must lead from it, than the known EDGES bring and take."""
    name, side = knot
    wanted = passed.get(name, 0)
    coming = sum([many[edge] for edge in many if joins[edge][1] == knot])
    leaving = sum([many[edge] for edge in many if joins[edge][0] == knot])
    return (wanted if side == 1 else -wanted) - coming + leaving


def put_back(graph, partial):
    """The partial COUNTS with those numbers, too, that the EDGES whose numbers are there tell as COUNTERS."""
    known = [(edge, number) for edge, number in zip(plain(graph), partial) if number is not None]
    counters = (tuple([edge for edge, _ in known]), ())
    # Whatever stands at the EDGES that would have to be counted, too, what is told comes out the same.
    more = more_counters(graph, counters)
    numbers = [number for _, number in known] + [0] * len(more)
    full = solved(graph, (counters[0] + more, ()), numbers, ())
    told = told_edges(graph, counters)
    return tuple([number if edge in told else None for edge, number in zip(plain(graph), full)])
