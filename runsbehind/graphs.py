"""GRAPHS of blocks without rings: their blocks, EDGES, PATHS and RUNS, and GRAPHS made of others."""

from heapq import heappop, heappush

from runsbehind.basics import is_ascending, is_edge, plain, stands_in, steps
from runsbehind.errors import Known, NoBlock, NoEdge, NoGraph, NoNumber, Twice


def is_graph(thing):
    """Whether thing is a GRAPH, of however many EDGES."""
    if not isinstance(thing, tuple) or not thing:
        return False
    return all([is_edge(part) for part in thing]) and is_ascending(thing) and is_joined(thing)


def is_joined(edges):
    """Whether the EDGES have no ring, and just one block is without an EDGE to it, just one without one from it."""
    many = len(blocks(edges))
    if len({edge[0] for edge in edges}) != many - 1 or len({edge[1] for edge in edges}) != many - 1:
        return False
    return len(in_order(edges)) == many


def is_path(graph, thing):
    """Whether thing is a PATH of the GRAPH."""
    graph = plain(graph)
    if not isinstance(thing, tuple) or len(thing) < 2:
        return False
    # No ring: so no block comes twice. And the EDGES hold only strings: so nothing else is equal to a part of one.
    return all([edge in graph for edge in steps(thing)])


def is_run(graph, thing):
    """Whether thing is a RUN of the GRAPH."""
    return is_path(graph, thing) and thing[0] == entry_of(graph) and thing[-1] == exit_of(graph)


def blocks(graph):
    """The set of the blocks of the GRAPH."""
    return tuple(sorted({name for edge in graph for name in edge}))


def entry_of(graph):
    """The block that has no EDGE to it."""
    return sorted({edge[0] for edge in graph} - {edge[1] for edge in graph})[0]


def exit_of(graph):
    """The block that has no EDGE from it."""
    return sorted({edge[1] for edge in graph} - {edge[0] for edge in graph})[0]


def need_block(graph, block):
    """Raises NoBlock if the GRAPH has no such block."""
    if block not in blocks(graph):
        raise NoBlock(block)


def edges_to(graph, block):
    """The set of the EDGES that lead to the block."""
    need_block(graph, block)
    return tuple(edge for edge in plain(graph) if edge[1] == block)


def edges_from(graph, block):
    """The set of the EDGES that lead from the block."""
    need_block(graph, block)
    return tuple(edge for edge in plain(graph) if edge[0] == block)


def next_blocks(graph):
    """For each block of the EDGES the list of those that an EDGE from it leads to, ascending if the EDGES are."""
    after = {name: [] for name in blocks(graph)}
    for begin, end in graph:
        after[begin].append(end)
    return after


def ways_on(graph, other):
    """For each block in how many ways, along EDGES without rings, it leads on to other; 1 for other itself."""
    after = next_blocks(graph)
    ways = {}
    for name in reversed(in_order(graph)):
        ways[name] = 1 if name == other else sum([ways[end] for end in after[name]])
    return ways


def leads(graph, one, other):
    """Whether some PATH goes from one to other."""
    return how_many_ways(graph, one, other) > 0


def between(graph, one, other):
    """The set of the blocks on PATHS from one to other, both with them; () if there are no such PATHS."""
    if not leads(graph, one, other):
        return ()
    onward, back = ways_on(graph, other), ways_on(turned(graph), one)
    return tuple(name for name in blocks(graph) if onward[name] > 0 and back[name] > 0)


def in_order(graph):
    """The least tuple of all blocks in which each stands behind all from which EDGES lead to it."""
    # Blocks of a ring, and those behind it, never get ready: so what is_joined hands in may come back too short.
    after = next_blocks(graph)
    waits = {name: 0 for name in after}
    for edge in graph:
        waits[edge[1]] += 1
    ready = [name for name in after if waits[name] == 0]
    order = []
    while ready:
        name = heappop(ready)
        order.append(name)
        for end in after[name]:
            waits[end] -= 1
            if waits[end] == 0:
                heappush(ready, end)
    return tuple(order)


def runs(graph):
    """The ascending list of all RUNS."""
    after = next_blocks(graph)
    growing = [(entry_of(graph),)]
    found = []
    while growing:
        way = growing.pop()
        if not after[way[-1]]:
            found.append(way)
        for end in after[way[-1]]:
            growing.append(way + (end,))
    return sorted(found)


def all_paths(graph):
    """The ascending list of all PATHS."""
    after = next_blocks(graph)
    growing = list(plain(graph))
    found = []
    while growing:
        path = growing.pop()
        found.append(path)
        for end in after[path[-1]]:
            growing.append(path + (end,))
    return sorted(found)


def how_many_runs(graph):
    """How many RUNS there are."""
    return ways_on(graph, exit_of(graph))[entry_of(graph)]


def nth_run(graph, number):
    """The RUN with this number; raises NoNumber if there is none."""
    if not 0 <= number < how_many_runs(graph):
        raise NoNumber(number)
    after, ways = next_blocks(graph), ways_on(graph, exit_of(graph))
    way = [entry_of(graph)]
    left = number
    while after[way[-1]]:
        ends = after[way[-1]]
        at = 0
        while left >= ways[ends[at]]:
            left -= ways[ends[at]]
            at += 1
        way.append(ends[at])
    return tuple(way)


def number_of_run(graph, run):
    """The number of this RUN."""
    after, ways = next_blocks(graph), ways_on(graph, exit_of(graph))
    return sum([ways[end] for begin, chosen in steps(run) for end in after[begin] if end < chosen])


def how_many_ways(graph, one, other):
    """How many PATHS lead from one to other; 0 if they are the same."""
    need_block(graph, one)
    need_block(graph, other)
    return 0 if one == other else ways_on(graph, other)[one]


def runs_along(graph, path):
    """The set of the numbers of the RUNS in which the blocks of the PATH stand one right behind another."""
    path = plain(path)
    return tuple([at for at, run in enumerate(runs(graph)) if stands_in(path, run)])


def made_graph(edges):
    """The GRAPH of these EDGES, in whatever order they stand; raises NoGraph if they are none."""
    made = tuple(sorted(edges))
    if not is_graph(made):
        raise NoGraph()
    return made


def need_edge(graph, edge):
    """Raises NoEdge if the GRAPH, in tuples as the EDGE is, does not have it."""
    if edge not in graph:
        raise NoEdge(edge)


def with_edge(graph, edge):
    """The GRAPH with this EDGE, too; raises Known if it is there, then NoGraph if they are no GRAPH then."""
    graph, edge = plain(graph), plain(edge)
    if edge in graph:
        raise Known(edge)
    return made_graph(graph + (edge,))


def without_edge(graph, edge):
    """The GRAPH without this EDGE; raises NoEdge if it is not there, then NoGraph if they are no GRAPH then."""
    graph, edge = plain(graph), plain(edge)
    need_edge(graph, edge)
    return made_graph([known for known in graph if known != edge])


def split_edge(graph, edge, name):
    """The GRAPH with a new block in the middle of this EDGE; raises NoEdge, then Twice if the block is there."""
    graph, edge = plain(graph), plain(edge)
    need_edge(graph, edge)
    if name in blocks(graph):
        raise Twice(name)
    begin, end = edge
    return made_graph([known for known in graph if known != edge] + [(begin, name), (name, end)])


def shut(graph, block):
    """The EDGES that lie on RUNS without this block; raises NoGraph if there is no such RUN."""
    need_block(graph, block)
    kept = tuple(edge for edge in plain(graph) if block not in edge)
    onward, back = ways_on(kept, exit_of(graph)), ways_on(turned(kept), entry_of(graph))
    return made_graph([(begin, end) for begin, end in kept if back[begin] > 0 and onward[end] > 0])


def turned(graph):
    """The GRAPH with each EDGE the other way about."""
    return tuple(sorted([(end, begin) for begin, end in graph]))
