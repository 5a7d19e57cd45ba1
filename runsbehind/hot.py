"""Hot PATHS: those that are surely gone often, whatever LOT stands behind the COUNTS."""

from runsbehind.basics import plain, steps
from runsbehind.errors import NoNumber, Unfit
from runsbehind.graphs import all_paths, edges_from, exit_of, need_block, runs
from runsbehind.paths import balance, greatest_gone, least_gone


def surplus(graph, counts, path):
    """What the counts of the EDGES of the PATH come to, less the THROUGHS of its inner blocks; maybe below 0."""
    return balance(graph, counts, path)


def hot_paths(graph, counts, bar):
    """The ascending list of the PATHS that are surely gone at least bar times."""
    return [path for path in all_paths(graph) if least_gone(graph, counts, path) >= bar]


def hot_ends(graph, counts, bar):
    """The ascending list of the hot PATHS that are part of no other one of them."""
    hot = hot_paths(graph, counts, bar)
    # A part of a hot PATH is hot, too: so each part of a longer one stands also in one longer by just one block.
    inside = set([path[1:] for path in hot] + [path[:-1] for path in hot])
    return [path for path in hot if path not in inside]


def by_surplus(graph, counts, paths):
    """The list of these PATHS, those with a greater SURPLUS first, those with the same one ascending."""
    return sorted(paths, key=lambda path: (-surplus(graph, counts, path), path))


def first_of(paths):
    """The first one of a list; None if there is none."""
    return paths[0] if paths else None


def hottest(graph, counts, many):
    """Of the PATHS with just so many EDGES the least one with the greatest SURPLUS; None if there are none."""
    return first_of(by_surplus(graph, counts, [path for path in all_paths(graph) if len(path) == many + 1]))


def hot_from(graph, counts, block):
    """Of the PATHS from the block to the exit the least one with the greatest SURPLUS; None if it is the exit."""
    need_block(graph, block)
    ends = (block, exit_of(graph))
    return first_of(by_surplus(graph, counts, [path for path in all_paths(graph) if (path[0], path[-1]) == ends]))


def nth_hottest(graph, counts, number):
    """The RUN with this number, those with a greater SURPLUS first; raises NoNumber if there is none."""
    ranked = by_surplus(graph, counts, runs(graph))
    if not 0 <= number < len(ranked):
        raise NoNumber(number)
    return ranked[number]


def hot_place(graph, counts, run):
    """The number of this RUN, those with a greater SURPLUS first."""
    return by_surplus(graph, counts, runs(graph)).index(plain(run))


def goes_on(graph, counts, path):
    """The block with which, put behind the PATH, its SURPLUS is as great as can be; None if it ends at the exit."""
    path = plain(path)
    best = first_of(by_surplus(graph, counts, [path + (end,) for _, end in edges_from(graph, path[-1])]))
    return None if best is None else best[-1]


def widest_run(graph, counts):
    """Of the RUNS the least one the least count of whose EDGES is greatest."""
    return min(runs(graph), key=lambda run: (-greatest_gone(graph, counts, run), run))


def sure_worths(graph, counts):
    """The list of how often each RUN is surely gone, in the order of their numbers."""
    return [least_gone(graph, counts, run) for run in runs(graph)]


def sure_total(graph, counts):
    """What all RUNS are surely gone, added up."""
    return sum(sure_worths(graph, counts))


def fewest_hot(graph, counts, number):
    """Of how few RUNS what they are surely gone comes to at least number; None if that of all of them does not."""
    worths = sorted(sure_worths(graph, counts), reverse=True)
    for many in range(len(worths) + 1):
        if sum(worths[:many]) >= number:
            return many
    return None


def hot_set(graph, counts, number):
    """The least set of the numbers of so few such RUNS as fewest_hot tells; None if it tells None."""
    many = fewest_hot(graph, counts, number)
    if many is None:
        return None
    worths = sure_worths(graph, counts)
    chosen = []
    lack = number
    for at, worth in enumerate(worths):
        left = many - len(chosen)
        # This RUN is taken if the best ones behind it are enough for the rest.
        if left > 0 and worth + sum(sorted(worths[at + 1:], reverse=True)[:left - 1]) >= lack:
            chosen.append(at)
            lack -= worth
    return tuple(chosen)


def warmed(path, run):
    """By how much the SURPLUS of the PATH grows by one time more of this RUN."""
    path, run = plain(path), plain(run)
    gone = steps(run)
    return len([edge for edge in steps(path) if edge in gone]) - len([name for name in path[1:-1] if name in run])


def room_for(graph, counts, path, run, bar):
    """How many times more the RUN can be run such that the PATH is still hot; None if there is no greatest number."""
    if least_gone(graph, counts, path) < bar:
        raise Unfit()
    change = warmed(path, run)
    # Of a bar below 1 each PATH is hot, whatever its SURPLUS is.
    if change >= 0 or bar < 1:
        return None
    return (surplus(graph, counts, path) - bar) // -change
