"""How often EDGES were gone one behind another, and none of others, whatever LOT stands behind the COUNTS."""

from runsbehind.basics import is_set_of, plain, steps
from runsbehind.counts import is_lot_for, lot_dealt, total
from runsbehind.flows import least_cut, most_flow, most_to
from runsbehind.graphs import entry_of, exit_of, leads, need_edge, runs

# Places beside the blocks of a GRAPH: no NAME has such letters.
AWAY = "AWAY"
END = "END"


def is_chain(graph, thing):
    """Whether thing is a CHAIN of the GRAPH."""
    known = plain(graph)
    if not isinstance(thing, tuple) or not all([part in known for part in thing]):
        return False
    for at in range(len(thing) - 1):
        end, begin = thing[at][1], thing[at + 1][0]
        if end != begin and not leads(graph, end, begin):
            return False
    return True


def is_shun(graph, chain, thing):
    """Whether thing is SHUN beside the CHAIN."""
    chain = plain(chain)
    return is_set_of([edge for edge in plain(graph) if edge not in chain], thing)


def keeps(chain, shun, run):
    """Whether the RUN goes along all EDGES of the CHAIN and along none of SHUN."""
    gone = steps(plain(run))
    return all([edge in gone for edge in plain(chain)]) and not any([edge in gone for edge in plain(shun)])


def kept_runs(graph, chain, shun):
    """The set of the numbers of the RUNS that keep both."""
    return tuple([at for at, run in enumerate(runs(graph)) if keeps(chain, shun, run)])


def kept_edges(graph, chain, shun):
    """The EDGES on the RUNS that keep both, ascending."""
    # The blocks ahead of an EDGE of the CHAIN and those behind it are others: so all RUNS along these EDGES alone keep.
    return sorted({edge for run in runs(graph) if keeps(chain, shun, run) for edge in steps(run)})


def arcs_kept(graph, counts, kept):
    """The arcs of the RUNS that keep, which are those along the EDGES of kept alone; in the order of kept."""
    many = dict(zip(plain(graph), counts))
    return [(begin, end, many[(begin, end)]) for begin, end in kept]


def arcs_off(graph, counts, kept):
    """The arcs of the RUNS that do not keep, each only until it leaves the EDGES of kept; in the order of the GRAPH."""
    # What follows then can be told together as it likes: as much leads on from each block as leads to it.
    return [(edge[0], edge[1] if edge in kept else AWAY, count) for edge, count in zip(plain(graph), counts)]


def least_kept(graph, counts, chain, shun):
    """How often a LOT that has the COUNTS keeps both at the least."""
    arcs = arcs_off(graph, counts, kept_edges(graph, chain, shun))
    return total(graph, counts) - most_to(arcs, entry_of(graph), AWAY)


def most_kept(graph, counts, chain, shun):
    """How often a LOT that has the COUNTS keeps both at the most."""
    arcs = arcs_kept(graph, counts, kept_edges(graph, chain, shun))
    return most_to(arcs, entry_of(graph), exit_of(graph))


def kept_lot(graph, counts, chain, shun, number):
    """A LOT that has the COUNTS and keeps both just so often; None if there is none."""
    if not least_kept(graph, counts, chain, shun) <= number <= most_kept(graph, counts, chain, shun):
        return None
    pure = pure_flow(graph, counts, kept_edges(graph, chain, shun), number)
    return lot_dealt(graph, counts, lambda name, bundles, wants: put_pure(name, bundles, wants, pure))


def pure_flow(graph, counts, kept, number):
    """For each EDGE of kept how many come along it, and by such EDGES alone to it, if just so many come to the end."""
    arcs = arcs_off(graph, counts, kept)
    last = [(exit_of(graph), END, number), (AWAY, END, total(graph, counts) - number)]
    flow = most_flow(arcs + last, entry_of(graph), END)
    return {edge: gone for edge, gone in zip(plain(graph), flow) if edge in kept}


def put_pure(name, bundles, wants, pure):
    """Bundles and wants at this block, put so that just so many stay on the EDGES of pure as pure says."""
    kept = [bundle for bundle in bundles if is_pure(bundle[0], pure)]
    others = [bundle for bundle in bundles if not is_pure(bundle[0], pure)]
    onward = [(end, pure[(name, end)]) for end, wanted in wants if (name, end) in pure]
    away = [(end, wanted) for end, wanted in wants if (name, end) not in pure]
    rest = [(end, wanted - pure[(name, end)]) for end, wanted in wants if (name, end) in pure]
    return kept + others, onward + away + rest


def is_pure(way, pure):
    """Whether the way goes along EDGES of pure alone."""
    return all([edge in pure for edge in steps(way)])


def is_kept_lot(graph, counts, chain, shun, number, thing):
    """Whether thing is a LOT that has the COUNTS and keeps both just so often."""
    if not is_lot_for(graph, counts, thing):
        return False
    return sum([times for run, times in thing if keeps(chain, shun, run)]) == number


def most_paper(graph, counts, chain, shun):
    """A set of EDGES, with the least sum, that bars the RUNS that keep both."""
    kept = kept_edges(graph, chain, shun)
    places = least_cut(arcs_kept(graph, counts, kept), entry_of(graph), exit_of(graph))
    return tuple([kept[at] for at in places])


def least_paper(graph, counts, chain, shun):
    """A set of EDGES, with the least sum, that bars the RUNS that do not keep both."""
    edges = plain(graph)
    places = least_cut(arcs_off(graph, counts, kept_edges(graph, chain, shun)), entry_of(graph), AWAY)
    return tuple([edges[at] for at in places])


def is_most_paper(graph, counts, chain, shun, thing):
    """Whether thing is a set of EDGES, with the least sum, that bars the RUNS that keep both."""
    barred = [run for run in runs(graph) if keeps(chain, shun, run)]
    return is_paper(graph, counts, thing, barred, most_kept(graph, counts, chain, shun))


def is_least_paper(graph, counts, chain, shun, thing):
    """Whether thing is a set of EDGES, with the least sum, that bars the RUNS that do not keep both."""
    barred = [run for run in runs(graph) if not keeps(chain, shun, run)]
    return is_paper(graph, counts, thing, barred, total(graph, counts) - least_kept(graph, counts, chain, shun))


def is_paper(graph, counts, thing, barred, least):
    """Whether thing is a set of EDGES of this sum that bars these RUNS."""
    many = dict(zip(plain(graph), counts))
    if not is_set_of(list(many), thing) or sum([many[edge] for edge in thing]) != least:
        return False
    return all([any([edge in thing for edge in steps(run)]) for run in barred])


def pairs_behind(graph):
    """The ascending list of the pairs (one, other) of EDGES, other behind one."""
    # EDGES that are a CHAIN lie together on some RUN, as all blocks do.
    ways = [steps(run) for run in runs(graph)]
    return sorted({(way[at], other) for way in ways for at in range(len(way)) for other in way[at + 1:]})


def edges_behind(graph, edge):
    """The list of the EDGES behind this one, ascending; raises NoEdge if the GRAPH does not have it."""
    edge = plain(edge)
    need_edge(plain(graph), edge)
    return [other for one, other in pairs_behind(graph) if one == edge]


def sure_behind(graph, counts, edge):
    """The set of the EDGES behind this one along which surely all go that go along this one."""
    behind, edge = edges_behind(graph, edge), plain(edge)
    # Who goes along this one and not along the other one would keep this one alone, the other one shunned.
    return tuple([other for other in behind if most_kept(graph, counts, (edge,), (other,)) == 0])


def never_behind(graph, counts, edge):
    """The set of the EDGES behind this one along which surely none goes that goes along this one."""
    behind, edge = edges_behind(graph, edge), plain(edge)
    return tuple([other for other in behind if most_kept(graph, counts, (edge, other), ()) == 0])


def twin_edges(graph, counts):
    """The set of the pairs (one, other), other behind one, along both of which surely the same RUNS go."""
    many = dict(zip(plain(graph), counts))
    alike = [pair for pair in pairs_behind(graph) if many[pair[0]] == many[pair[1]]]
    return tuple([pair for pair in alike if least_kept(graph, counts, pair, ()) == many[pair[0]]])


def strongest_pair(graph, counts):
    """The pair (one, other), other behind one, along both of which the most surely go; None if there is no pair."""
    return min(pairs_behind(graph), key=lambda pair: (-least_kept(graph, counts, pair, ()), pair), default=None)
