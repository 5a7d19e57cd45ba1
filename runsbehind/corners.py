"""Corners: how often each two EDGES, one right behind the other, were gone, and what that tells of longer PATHS."""

from runsbehind.basics import is_number, plain, steps
from runsbehind.counts import as_lot, goes, inner_blocks, is_lot_for
from runsbehind.graphs import entry_of, exit_of
from runsbehind.lots import is_only_lot
from runsbehind.paths import greatest_gone, least_gone, lot_going
from runsbehind.ranges import settled_arcs
from runsbehind.rounds import HOME, sum_span


def corners_in(graph):
    """The set of the corners of the GRAPH."""
    edges = plain(graph)
    return tuple(sorted([one + other[1:] for one in edges for other in edges if one[1] == other[0]]))


def corners_on(path):
    """The list of the corners of the PATH, one behind another."""
    return [path[at:at + 3] for at in range(len(path) - 2)]


def is_corners(graph, counts, thing):
    """Whether thing is CORNERS of the COUNTS."""
    known = corners_in(graph)
    if not isinstance(thing, tuple) or len(thing) != len(known):
        return False
    if not all([is_number(part) and part >= 0 for part in thing]):
        return False
    begun, ended = {}, {}
    for corner, number in zip(known, thing):
        begun[corner[:2]] = begun.get(corner[:2], 0) + number
        ended[corner[1:]] = ended.get(corner[1:], 0) + number
    # An EDGE to the exit begins no corner, one from the entry ends none: so nothing is known of these here.
    many = dict(zip(plain(graph), counts))
    return all([begun[edge] == many[edge] for edge in begun]) and all([ended[edge] == many[edge] for edge in ended])


def corners_of(graph, lot):
    """The tuple of how often the LOT goes each corner."""
    return tuple([goes(lot, corner) for corner in corners_in(graph)])


def least_corners(graph, counts):
    """The least of all CORNERS of the COUNTS."""
    return first_corners(graph, counts, False)


def greatest_corners(graph, counts):
    """The greatest of all CORNERS of the COUNTS."""
    return first_corners(graph, counts, True)


def first_corners(graph, counts, greatest):
    """The CORNERS of the COUNTS of which each number, from the first one on, is as small, or as great, as can be."""
    many = dict(zip(plain(graph), counts))
    coming, leaving = {edge: many[edge] for edge in many}, {edge: many[edge] for edge in many}
    numbers = []
    for corner in corners_in(graph):
        one, other = corner[:2], corner[1:]
        # What the later EDGES from the middle block can still take need not go on here.
        later = sum([leaving[edge] for edge in leaving if edge[0] == other[0] and edge > other])
        most = min(coming[one], leaving[other])
        number = most if greatest else max(0, coming[one] - later)
        coming[one] -= number
        leaving[other] -= number
        numbers.append(number)
    return tuple(numbers)


def how_many_corners(graph, counts):
    """How many CORNERS of the COUNTS there are."""
    ways = 1
    for name in inner_blocks(graph):
        coming = [count for edge, count in zip(plain(graph), counts) if edge[1] == name]
        leaving = [count for edge, count in zip(plain(graph), counts) if edge[0] == name]
        ways *= how_many_tables(coming, leaving)
    return ways


def how_many_tables(one, other):
    """How many tables of numbers from 0 there are with these sums of their rows and those of their columns."""
    rows, columns = (one, other) if len(one) < len(other) else (other, one)
    # All that counts behind a row is what the columns still lack, in whatever order; the last row takes all of it.
    layer = {tuple(sorted(columns)): 1}
    for row in rows[:-1]:
        following = {}
        for lacking, ways in layer.items():
            for left in columns_left(row, lacking):
                key = tuple(sorted(left))
                following[key] = following.get(key, 0) + ways
        layer = following
    return sum(list(layer.values()))


def columns_left(row, lacking):
    """The list of all tuples of what the columns can lack behind a row with this sum."""
    found = [((), row)]
    for at, lack in enumerate(lacking):
        behind = sum(lacking[at + 1:])
        found = [(left + (lack - part,), rest - part) for left, rest in found
                 for part in range(max(0, rest - behind), min(lack, rest) + 1)]
    return [left for left, _ in found]


def turn_graph(graph):
    """The GRAPH whose blocks are the EDGES, one ahead of and one behind them all: corners lead from EDGE to EDGE."""
    # So what counts tell of PATHS here, corners tell of them there.
    edges, first, last = plain(graph), entry_of(graph), exit_of(graph)
    begins = [((HOME, first), edge) for edge in edges if edge[0] == first]
    ends = [(edge, (last, HOME)) for edge in edges if edge[1] == last]
    return tuple(sorted(begins + ends + [(corner[:2], corner[1:]) for corner in corners_in(edges)]))


def turn_counts(graph, counts, corners):
    """The COUNTS of the turn_graph that the COUNTS and CORNERS of the GRAPH tell."""
    many = dict(zip(plain(graph), counts))
    turns = dict(zip(corners_in(graph), corners))
    numbers = []
    for one, other in turn_graph(graph):
        if one[0] == HOME:
            numbers.append(many[other])
        elif other[1] == HOME:
            numbers.append(many[one])
        else:
            numbers.append(turns[one + other[1:]])
    return tuple(numbers)


def least_with(graph, counts, corners, path):
    """How often a LOT that has the COUNTS and the CORNERS goes the PATH at the least."""
    return least_gone(turn_graph(graph), turn_counts(graph, counts, corners), steps(plain(path)))


def greatest_with(graph, counts, corners, path):
    """How often a LOT that has the COUNTS and the CORNERS goes the PATH at the most."""
    return greatest_gone(turn_graph(graph), turn_counts(graph, counts, corners), steps(plain(path)))


def lot_with(graph, counts, corners, path, times):
    """A LOT that has the COUNTS and the CORNERS and goes the PATH just so many times; None if there is none."""
    turns = turn_counts(graph, counts, corners)
    lot = lot_going(turn_graph(graph), turns, tuple(steps(plain(path))), times)
    if lot is None:
        return None
    # The blocks of a RUN are where its EDGES end, and where the step ahead of them all does.
    return as_lot([(tuple([edge[1] for edge in way[:-1]]), number) for way, number in lot])


def is_lot_with(graph, counts, corners, path, times, thing):
    """Whether thing is a LOT that has the COUNTS and the CORNERS and goes the PATH just so many times."""
    if not is_lot_for(graph, counts, thing):
        return False
    return corners_of(graph, thing) == plain(corners) and goes(thing, path) == times


def single_with(graph, counts, corners):
    """Whether just one LOT has the COUNTS and the CORNERS."""
    return is_only_lot(turn_graph(graph), turn_counts(graph, counts, corners))


def table_arcs(graph, counts, known, name):
    """The arcs (begin, end, low, high) of what goes round by the corners with this block in the middle, in order."""
    # known gives numbers that must be; all others are bounded by the counts, which what comes and what leaves must be.
    many = dict(zip(plain(graph), counts))
    arcs = []
    for corner in corners_in(graph):
        if corner[1] == name:
            begin, end = (corner[:2], 1), (corner[1:], 0)
            low = known.get(corner, 0)
            arcs.append((begin, end, low, known.get(corner, min(many[corner[:2]], many[corner[1:]]))))
    coming = [(HOME, (edge, 1), many[edge], many[edge]) for edge in many if edge[1] == name]
    leaving = [((edge, 0), HOME, many[edge], many[edge]) for edge in many if edge[0] == name]
    return arcs + coming + leaving


def spans_by(graph, counts, known, asked):
    """For each of the corners asked the span that corner_span tells; None if there are no such CORNERS."""
    numbers = dict(plain(known))
    for name in sorted({corner[1] for corner in numbers}):
        if settled_arcs(table_arcs(graph, counts, numbers, name)) is None:
            return None
    return [span_by(graph, table_arcs(graph, counts, numbers, corner[1]), corner) for corner in asked]


def span_by(graph, arcs, corner):
    """The pair of the least and the greatest number of this corner by the arcs of the table of its middle block."""
    ends = ((corner[:2], 1), (corner[1:], 0))
    return sum_span(arcs, settled_arcs(arcs), [int(arc[:2] == ends) for arc in arcs])


def corner_span(graph, counts, known, corner):
    """The pair of the least and the greatest number of the corner in CORNERS with the known numbers; maybe None."""
    spans = spans_by(graph, counts, known, [plain(corner)])
    return None if spans is None else spans[0]


def inner_sum(graph, counts, path):
    """What the counts of the inner EDGES of the PATH come to."""
    many = dict(zip(plain(graph), counts))
    return sum([many[edge] for edge in steps(path)[1:-1]])


def path_span(graph, counts, known, path):
    """The pair of how often LOTS that have the COUNTS and the known corners go the PATH at the least and most."""
    path = plain(path)
    spans = spans_by(graph, counts, known, corners_on(path))
    if spans is None:
        return None
    # The corners of a PATH have unlike middle blocks: so all can be as few at once, or as many.
    least = sum([low for low, _ in spans]) - inner_sum(graph, counts, path)
    return max(0, least), min([high for _, high in spans])


def widths_left(graph, counts, path):
    """For each corner of the PATH how far apart path_span can still be if the number of this corner alone is told."""
    path = plain(path)
    spans = spans_by(graph, counts, (), corners_on(path))
    inner = inner_sum(graph, counts, path)
    widths = []
    for at, (low, high) in enumerate(spans):
        others = spans[:at] + spans[at + 1:]
        most = min([span[1] for span in others], default=high)
        base = sum([span[0] for span in others]) - inner
        # Up to what the others have at the most the width never falls as the number grows; above that it never grows.
        number = max(low, min(most, high))
        widths.append(min(number, most) - max(0, number + base))
    return tuple(widths)


def best_corner(graph, counts, path):
    """The first corner of the PATH whose number leaves path_span the least apart."""
    widths = widths_left(graph, counts, path)
    return corners_on(plain(path))[widths.index(min(widths))]
