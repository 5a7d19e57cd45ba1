"""How often a PATH was gone at the least and at the most, whatever LOT stands behind the COUNTS."""

from runsbehind.basics import plain, steps
from runsbehind.counts import as_lot, counts_of, goes, is_lot_for, lot_along, throughs
from runsbehind.graphs import edges_from, edges_to, entry_of, exit_of, next_blocks


def counts_along(graph, counts, path):
    """The list of the counts of the EDGES of the PATH."""
    many = dict(zip(plain(graph), counts))
    return [many[edge] for edge in steps(path)]


def throughs_along(graph, counts, path):
    """The list of the THROUGHs of the inner blocks of the PATH."""
    passed = throughs(graph, counts)
    return [passed[name] for name in path[1:-1]]


def balance(graph, counts, path):
    """The counts of the EDGES of the PATH, added up, less the THROUGHs of its inner blocks; maybe below 0."""
    return sum(counts_along(graph, counts, path)) - sum(throughs_along(graph, counts, path))


def least_gone(graph, counts, path):
    """The least number of the PATH."""
    return max(0, balance(graph, counts, path))


def greatest_gone(graph, counts, path):
    """The greatest number of the PATH."""
    return min(counts_along(graph, counts, path))


def gone_just(graph, counts, path):
    """The least and the greatest number of the PATH if they are the same, otherwise None."""
    least = least_gone(graph, counts, path)
    return least if least == greatest_gone(graph, counts, path) else None


def is_surely_gone(graph, counts, path):
    """Whether the least number of the PATH is above 0."""
    return least_gone(graph, counts, path) > 0


def may_be_gone(graph, counts, path):
    """Whether the greatest number of the PATH is above 0."""
    return greatest_gone(graph, counts, path) > 0


def leaks(graph, counts, path):
    """For each inner block of the PATH its THROUGH less the count of the EDGE of the PATH that leads from it."""
    passed, onward = throughs_along(graph, counts, path), counts_along(graph, counts, path)[1:]
    return tuple([number - count for number, count in zip(passed, onward)])


def narrowest(graph, counts, path):
    """The set of the EDGES of the PATH whose count is its greatest number."""
    numbers = counts_along(graph, counts, path)
    return tuple(sorted([edge for edge, number in zip(steps(path), numbers) if number == min(numbers)]))


def lot_going(graph, counts, path, number):
    """A LOT with these COUNTS that goes the PATH just so often; None if there is none."""
    if not least_gone(graph, counts, path) <= number <= greatest_gone(graph, counts, path):
        return None
    return lot_along(graph, counts, plain(path), number)


def is_lot_going(graph, counts, path, number, thing):
    """Whether thing is a LOT with these COUNTS that goes the PATH just so often."""
    return is_lot_for(graph, counts, thing) and goes(thing, path) == number


def sure_numbers(graph, counts):
    """For each PATH that is surely gone its least number."""
    graph = plain(graph)
    many, passed, after = dict(zip(graph, counts)), throughs(graph, counts), next_blocks(graph)
    sure = {}
    growing = [(edge, many[edge]) for edge in graph if many[edge] > 0]
    while growing:
        path, number = growing.pop()
        sure[path] = number
        # A longer PATH is never gone more surely: so only sure ones need to grow.
        for end in after[path[-1]]:
            more = number + many[(path[-1], end)] - passed[path[-1]]
            if more > 0:
                growing.append((path + (end,), more))
    return sure


def sure_paths(graph, counts):
    """The ascending list of all PATHS that are surely gone."""
    return sorted(sure_numbers(graph, counts))


def greatest_sure(graph, counts):
    """The ascending list of the PATHS that are surely gone and stand in no longer one of them."""
    sure = sure_paths(graph, counts)
    # What stands in a longer one also stands in one that is longer by just one block, at its head or at its end.
    inside = set([path[1:] for path in sure] + [path[:-1] for path in sure])
    return [path for path in sure if path not in inside]


def longest_sure(graph, counts):
    """Of the PATHS that are surely gone and have the most blocks the least one; None if there are none."""
    return min(sure_paths(graph, counts), key=lambda path: (-len(path), path), default=None)


def runs_to_sure(graph, counts, path):
    """How many RUNS that go the PATH must be put to the LOT such that it is surely gone then."""
    # Each such RUN adds 1 to each EDGE of the PATH and to each inner block: so 1 to the balance.
    return max(0, 1 - balance(graph, counts, path))


def telling_edges(graph, path):
    """The set of the EDGES of the PATH whose count is always its least number and its greatest one."""
    told = []
    for at, edge in enumerate(steps(path)):
        ahead, behind = path[1:at + 1], path[at + 1:-1]
        single = [len(edges_to(graph, name)) == 1 for name in ahead]
        single += [len(edges_from(graph, name)) == 1 for name in behind]
        if all(single):
            told.append(edge)
    return tuple(sorted(told))


def is_always_told(graph, path):
    """Whether both numbers of the PATH are the same for all COUNTS of the GRAPH."""
    return telling_edges(graph, path) != ()


def sure_lot(graph, counts):
    """The LOT of all RUNS that are surely gone, each with its least number."""
    sure, ends = sure_numbers(graph, counts), (entry_of(graph), exit_of(graph))
    return as_lot([(path, sure[path]) for path in sure if (path[0], path[-1]) == ends])


def left_counts(graph, counts):
    """The COUNTS less those of sure_lot, EDGE by EDGE."""
    taken = counts_of(graph, sure_lot(graph, counts))
    return tuple([count - number for count, number in zip(counts, taken)])
