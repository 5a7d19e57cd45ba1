"""Counts that were noted and do not fit together: which of them can be wrong, and what they may have been."""

from runsbehind.basics import is_number, plain, sets_of, steps
from runsbehind.counts import inner_blocks, is_counts, sums_at
from runsbehind.errors import NoCounts
from runsbehind.graphs import need_edge, runs
from runsbehind.ranges import is_side
from runsbehind.rounds import bar_at, cheapest, round_arcs, settled, sum_span


def is_noted(graph, thing):
    """Whether thing is a tuple of numbers from 0, one for each EDGE."""
    if not isinstance(thing, tuple) or len(thing) != len(graph):
        return False
    return all([is_number(part) and part >= 0 for part in thing])


def misfits(graph, noted):
    """The pairs (block, by how much more is noted to it than from it) of the inner blocks where that is not alike."""
    leaving, coming = sums_at(graph, noted, 0), sums_at(graph, noted, 1)
    more = [(name, coming[name] - leaving[name]) for name in inner_blocks(graph)]
    return tuple([pair for pair in more if pair[1] != 0])


def need_edges(graph, some):
    """The pairs in tuples; raises NoEdge for the first one that is no EDGE."""
    edges = plain(graph)
    for edge in plain(some):
        need_edge(edges, edge)
    return plain(some)


def free_arcs(graph, noted, some):
    """The arcs of the EDGES: those of some have any number, all others just what is noted."""
    # What is noted of all together is no bound for some: who goes more often than that goes along EDGES of some alone.
    most = sum(noted) + 1
    return round_arcs(graph, [(0, most) if edge in some else (number, number)
                              for edge, number in zip(plain(graph), noted)])


def can_be_wrong(graph, noted, some):
    """Whether there are COUNTS that are the same as noted at all EDGES but those of some; raises NoEdge."""
    return put_right(graph, noted, some) is not None


def wrong_dam(graph, noted, some):
    """A dam of some; None if there is none; raises NoEdge."""
    _, stuck = settled(free_arcs(graph, noted, need_edges(graph, some)), noted)
    return bar_at(graph, stuck) if stuck else None


def is_wrong_dam(graph, noted, some, thing):
    """Whether thing is a dam of some; raises NoEdge."""
    some = need_edges(graph, some)
    if not is_side(graph, thing):
        return False
    few, way = thing
    side = 1 if way == "in" else 0
    known = list(zip(plain(graph), noted))
    # For "out" all is told the other way about.
    into = [(edge, number) for edge, number in known if edge[side] in few and edge[1 - side] not in few]
    out = [(edge, number) for edge, number in known if edge[1 - side] in few and edge[side] not in few]
    if any([edge in some for edge, _ in out]):
        return False
    return sum([number for edge, number in into if edge not in some]) > sum([number for _, number in out])


def fewest_wrong(graph, noted):
    """How few EDGES can be wrong."""
    return len(wrong_sets(graph, noted)[0])


def wrong_sets(graph, noted):
    """The ascending list of the sets of as few EDGES as can be that can be wrong."""
    edges, off = plain(graph), [name for name, _ in misfits(graph, noted)]
    many, found = 0, []
    while not found:
        found = [some for some in sets_of(edges, many) if may_mend(some, off) and can_be_wrong(graph, noted, some)]
        many += 1
    return found


def may_mend(some, off):
    """Whether each of the blocks that are off is at one of these EDGES, as it must be if they can be wrong."""
    met = [name for edge in some for name in edge]
    return all([name in met for name in off])


def suspects(graph, noted):
    """The set of the EDGES that are in one at least of the sets of as few as can be that can be wrong."""
    found = wrong_sets(graph, noted)
    return tuple([edge for edge in plain(graph) if any([edge in some for some in found])])


def surely_wrong(graph, noted):
    """The set of the EDGES that are in each of the sets of as few as can be that can be wrong."""
    found = wrong_sets(graph, noted)
    return tuple([edge for edge in plain(graph) if all([edge in some for some in found])])


def put_right(graph, noted, some):
    """COUNTS that are the same as noted at all EDGES but those of some; None if there are none; raises NoEdge."""
    numbers, stuck = settled(free_arcs(graph, noted, need_edges(graph, some)), noted)
    return None if stuck else numbers


def is_put_right(graph, noted, some, thing):
    """Whether thing is COUNTS that are the same as noted at all EDGES but those of some; raises NoEdge."""
    some = need_edges(graph, some)
    if not is_counts(graph, thing):
        return False
    return all([edge in some or count == number for edge, count, number in zip(plain(graph), thing, noted)])


def right_range(graph, noted, some, edge):
    """The pair of the least and the greatest count of the EDGE, None for no greatest one; raises NoEdge, NoCounts."""
    some, edge = need_edges(graph, some), plain(edge)
    need_edge(plain(graph), edge)
    numbers = put_right(graph, noted, some)
    if numbers is None:
        raise NoCounts()
    span = sum_span(free_arcs(graph, noted, some), numbers, [int(known == edge) for known in plain(graph)])
    return (span[0], None) if has_free_run(graph, some, edge) else span


def has_free_run(graph, some, edge):
    """Whether the EDGE lies on a RUN all EDGES of which are of some."""
    ways = [steps(run) for run in runs(graph)]
    return any([edge in way and all([gone in some for gone in way]) for way in ways])


def change_to(noted, counts):
    """What the differences between these COUNTS and what is noted come to, without their signs."""
    return sum([abs(count - number) for count, number in zip(counts, noted)])


def least_change(graph, noted):
    """The least change to any COUNTS."""
    return change_to(noted, nearest_counts(graph, noted))


def nearest_counts(graph, noted):
    """COUNTS with the least change to them."""
    # Up to what is noted each step saves a change; above that it makes one more.
    below = round_arcs(graph, [(0, number) for number in noted])
    above = round_arcs(graph, [(0, sum(noted)) for _ in noted])
    many = len(below)
    parts = cheapest(below + above, (0,) * (2 * many), [-1] * many + [1] * many)
    return tuple([parts[at] + parts[many + at] for at in range(many)])


def is_nearest(graph, noted, thing):
    """Whether thing is COUNTS with the least change to them."""
    return is_counts(graph, thing) and change_to(noted, thing) == least_change(graph, noted)
