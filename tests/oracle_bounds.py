"""What sections 11 to 14 of the document say, worked out the long way, for the tests to compare with."""

import itertools
import random

from tests import oracle


def inner_blocks(graph):
    return [name for name in oracle.names_of(graph) if name not in (oracle.entry_of(graph), oracle.exit_of(graph))]


def is_ranges(graph, thing):
    if type(thing) is not tuple or len(thing) != len(graph):
        return False
    for pair in thing:
        if type(pair) is not tuple or len(pair) != 2 or not all(oracle.is_number(part) for part in pair):
            return False
        if not 0 <= pair[0] <= pair[1]:
            return False
    return True


def is_within(graph, ranges, thing):
    return oracle.is_counts(graph, thing) and all(low <= part <= high for part, (low, high) in zip(thing, ranges))


def all_within(graph, ranges):
    """All COUNTS within small RANGES, ascending."""
    return [some for some in itertools.product(*[range(low, high + 1) for low, high in ranges])
            if oracle.is_counts(graph, some)]


def into(graph, some):
    return [edge for edge in graph if edge[1] in some and edge[0] not in some]


def out_of(graph, some):
    return [edge for edge in graph if edge[0] in some and edge[1] not in some]


def is_side(graph, thing):
    if type(thing) is not tuple or len(thing) != 2 or type(thing[1]) is not str or thing[1] not in ("in", "out"):
        return False
    return oracle.is_set_of(inner_blocks(graph), thing[0]) and thing[0] != ()


def all_sides(graph):
    return [(some, way) for some in oracle.subsets(inner_blocks(graph)) if some for way in ("in", "out")]


def is_bar(graph, ranges, thing):
    if not is_side(graph, thing):
        return False
    bounds = dict(zip(graph, ranges))
    coming, leaving = into(graph, thing[0]), out_of(graph, thing[0])
    if thing[1] == "in":
        return sum(bounds[edge][0] for edge in coming) > sum(bounds[edge][1] for edge in leaving)
    return sum(bounds[edge][0] for edge in leaving) > sum(bounds[edge][1] for edge in coming)


def some_ranges(graph, seed, most, many):
    """So many RANGES, always the same ones for a seed: wide ones, narrow ones, single numbers; some that fit nothing."""
    chance = random.Random(seed)
    found = [((0, most),) * len(graph), ((0, 0),) * len(graph), ((most, most),) * len(graph)]
    for turn in range(many):
        base = oracle.some_counts(graph, (seed, turn).__repr__(), max(1, most // 2), 3)
        ranges = []
        for number in base:
            near = number if turn % 3 else chance.randint(0, most)
            low = max(0, near - chance.choice((0, 0, 1, 2, most // 2)))
            ranges.append((low, max(low, near + chance.choice((0, 0, 1, 2, most // 3)))))
        found.append(tuple(ranges))
    return found


def is_noted(graph, thing):
    return type(thing) is tuple and len(thing) == len(graph) and all(oracle.is_number(part) and part >= 0
                                                                     for part in thing)


def misfits(graph, noted):
    more = [(name, oracle.flows_in(graph, noted, name) - oracle.flows_out(graph, noted, name))
            for name in inner_blocks(graph)]
    return tuple(pair for pair in more if pair[1])


def is_dam(graph, noted, some, thing):
    if not is_side(graph, thing):
        return False
    many = dict(zip(graph, noted))
    coming, leaving = into(graph, thing[0]), out_of(graph, thing[0])
    first, second = (coming, leaving) if thing[1] == "in" else (leaving, coming)
    if set(second) & set(some):
        return False
    return sum(many[edge] for edge in first if edge not in some) > sum(many[edge] for edge in second)


def is_right(graph, noted, some, thing):
    return oracle.is_counts(graph, thing) and all(edge in some or one == other
                                                  for edge, one, other in zip(graph, thing, noted))


def change(noted, numbers):
    return sum(abs(one - other) for one, other in zip(noted, numbers))


def sums(rows):
    return tuple(sum(row) for row in zip(*rows))


def numbers_gone(lots, path):
    """The ascending list of how often these LOTS go the PATH."""
    return sorted({oracle.goes(lot, path) for lot in lots})


def stretches(days, cuts):
    """The COUNTS of each stretch of days added up."""
    marks = [0] + list(cuts) + [len(days)]
    return [sums(days[begin:end]) for begin, end in zip(marks, marks[1:])]


def sure(graph, counts, path):
    return max(0, oracle.surplus(graph, counts, path))


def kept(graph, days, paths, cuts):
    return sum(sure(graph, part, path) for part in stretches(days, cuts) for path in paths)


def all_corners(graph):
    return [path for path in oracle.all_paths(graph) if len(path) == 3]


def corners_of(graph, lot):
    return tuple(oracle.goes(lot, corner) for corner in all_corners(graph))


def is_corners(graph, counts, thing):
    corners, many = all_corners(graph), dict(zip(graph, counts))
    if type(thing) is not tuple or len(thing) != len(corners) or not all(oracle.is_number(part) for part in thing):
        return False
    if any(part < 0 for part in thing):
        return False
    for edge in graph:
        if edge[1] != oracle.exit_of(graph):
            if sum(part for corner, part in zip(corners, thing) if corner[:2] == edge) != many[edge]:
                return False
        if edge[0] != oracle.entry_of(graph):
            if sum(part for corner, part in zip(corners, thing) if corner[1:] == edge) != many[edge]:
                return False
    return True


def by_corners(graph, lots):
    """The LOTS by how often they go each corner."""
    table = {}
    for lot in lots:
        table.setdefault(corners_of(graph, lot), []).append(lot)
    return table
