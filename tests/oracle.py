"""What the document says, worked out the long way, for the tests to compare with: independent of the package."""

import itertools
import random
import re

FORK = (("a", "m"), ("b", "m"), ("c", "t"), ("d", "t"), ("m", "c"), ("m", "d"), ("s", "a"), ("s", "b"))
SKIP = (("s", "t"), ("s", "u"), ("u", "t"))
DEEP = (("a", "m"), ("a", "y"), ("b", "m"), ("m", "x"), ("m", "y"), ("s", "a"), ("s", "b"), ("x", "t"), ("y", "t"))
TWOFOLD = (("a", "m"), ("b", "m"), ("c", "n"), ("d", "n"), ("e", "t"), ("f", "t"), ("m", "c"), ("m", "d"),
           ("n", "e"), ("n", "f"), ("s", "a"), ("s", "b"))
ONE_EDGE = (("zz", "aaaaaaaa"),)
# 10 blocks and 16 EDGES; the names do not ascend along the EDGES.
LADDER = tuple(sorted([
    ("q", "b"), ("q", "z"), ("b", "m"), ("z", "m"), ("b", "k"), ("z", "k"), ("m", "a"), ("m", "y"),
    ("k", "a"), ("k", "y"), ("a", "c"), ("y", "c"), ("a", "x"), ("y", "x"), ("c", "d"), ("x", "d")]))
STAIRS = tuple(sorted(
    [(one, other) for one, other in zip("jihgfedcb", "ihgfedcba")]
    + [("j", "h"), ("i", "g"), ("h", "f"), ("g", "e"), ("f", "d"), ("e", "c"), ("d", "b")]))
GRAPHS = (FORK, SKIP, DEEP, TWOFOLD, ONE_EDGE, LADDER, STAIRS)


def names_of(edges):
    return sorted({name for edge in edges for name in edge})


def closure(edges):
    """All pairs (one, other) such that one or more EDGES lead from one to other."""
    pairs = set(edges)
    while True:
        more = {(one, end) for one, other in pairs for begin, end in edges if begin == other} - pairs
        if not more:
            return pairs
        pairs |= more


def is_graph(thing):
    if type(thing) is not tuple or len(thing) == 0:
        return False
    for edge in thing:
        if type(edge) is not tuple or len(edge) != 2:
            return False
        if any(type(name) is not str or re.fullmatch("[a-z]{1,8}", name) is None for name in edge):
            return False
    if list(thing) != sorted(set(thing)):
        return False
    names = names_of(thing)
    if any((name, name) in closure(thing) for name in names):
        return False
    entries = [name for name in names if all(edge[1] != name for edge in thing)]
    exits = [name for name in names if all(edge[0] != name for edge in thing)]
    return len(entries) == 1 and len(exits) == 1


def entry_of(graph):
    return [name for name in names_of(graph) if all(edge[1] != name for edge in graph)][0]


def exit_of(graph):
    return [name for name in names_of(graph) if all(edge[0] != name for edge in graph)][0]


def paths_from(graph, path):
    """All PATHS, and PATHS of one block, that begin with this one."""
    found = [path]
    for begin, end in graph:
        if begin == path[-1]:
            found += paths_from(graph, path + (end,))
    return found


def all_paths(graph):
    return sorted(path for name in names_of(graph) for path in paths_from(graph, (name,)) if len(path) > 1)


def all_runs(graph):
    return [path for path in all_paths(graph) if path[0] == entry_of(graph) and path[-1] == exit_of(graph)]


def edges_on(path):
    return list(zip(path, path[1:]))


def holds(run, path):
    return any(run[at:at + len(path)] == path for at in range(len(run)))


def flows_in(graph, numbers, name):
    return sum(number for edge, number in zip(graph, numbers) if edge[1] == name)


def flows_out(graph, numbers, name):
    return sum(number for edge, number in zip(graph, numbers) if edge[0] == name)


def is_number(thing):
    return type(thing) is int


def is_counts(graph, thing):
    if type(thing) is not tuple or len(thing) != len(graph):
        return False
    if not all(is_number(part) for part in thing) or any(part < 0 for part in thing):
        return False
    inner = set(names_of(graph)) - {entry_of(graph), exit_of(graph)}
    return all(flows_in(graph, thing, name) == flows_out(graph, thing, name) for name in inner)


def is_lot(graph, thing):
    if type(thing) is not tuple:
        return False
    run_list = all_runs(graph)
    for pair in thing:
        if type(pair) is not tuple or len(pair) != 2 or type(pair[0]) is not tuple or pair[0] not in run_list:
            return False
        if not is_number(pair[1]) or pair[1] < 1:
            return False
    return list(thing) == sorted(thing) and len({pair[0] for pair in thing}) == len(thing)


def counts_of(graph, lot):
    return tuple(sum(number for run, number in lot if edge in edges_on(run)) for edge in graph)


def goes(lot, path):
    return sum(number for run, number in lot if holds(run, path))


def lots_up_to(graph, most):
    """All LOTS of the GRAPH with a TOTAL of at most this, by the COUNTS that they have."""
    run_list = all_runs(graph)
    table = {}
    for many in range(most + 1):
        for chosen in itertools.combinations_with_replacement(run_list, many):
            lot = tuple((run, chosen.count(run)) for run in run_list if run in chosen)
            table.setdefault(counts_of(graph, lot), []).append(lot)
    return table


def all_lots(graph, counts):
    """All LOTS that have the COUNTS, found RUN by RUN."""
    return sorted(lots_left(dict(zip(graph, counts)), all_runs(graph)))


def lots_left(left, run_list):
    if not any(left.values()):
        return [()]
    if not run_list:
        return []
    run, found = run_list[0], []
    for number in range(min(left[edge] for edge in edges_on(run)) + 1):
        rest = {edge: worth - number if edge in edges_on(run) else worth for edge, worth in left.items()}
        found += [(((run, number),) if number else ()) + lot for lot in lots_left(rest, run_list[1:])]
    return found


def subsets(parts):
    """All sets of these, as ascending tuples; the smaller ones first, those of one size ascending."""
    parts = sorted(parts)
    return [some for many in range(len(parts) + 1) for some in itertools.combinations(parts, many)]


def is_set_of(known, thing):
    if type(thing) is not tuple or not all(any(part == other for other in known) for part in thing):
        return False
    return list(thing) == sorted(set(thing))


def is_chain(graph, thing):
    if type(thing) is not tuple or not all(any(part == edge for edge in graph) for part in thing):
        return False
    pairs = closure(graph)
    return all(one[1] == other[0] or (one[1], other[0]) in pairs for one, other in zip(thing, thing[1:]))


def all_chains(graph):
    """All CHAINS of the GRAPH: of the EDGES of each PATH, in their order, all choices."""
    found = {some for path in all_paths(graph) for some in chosen_from(edges_on(path))}
    return sorted(found)


def chosen_from(row):
    """All tuples of some of the parts of a row, in their order."""
    return [some for many in range(len(row) + 1) for some in itertools.combinations(row, many)]


def keeps(chain, shun, run):
    gone = set(edges_on(run))
    return set(chain) <= gone and not set(shun) & gone


def times_kept(lot, chain, shun):
    return sum(number for run, number in lot if keeps(chain, shun, run))


def bars(edges, run_list):
    return all(set(edges) & set(edges_on(run)) for run in run_list)


def sum_of(graph, counts, edges):
    return sum(number for edge, number in zip(graph, counts) if edge in edges)


def surplus(graph, counts, path):
    """The counts of the EDGES less the THROUGHs of the inner blocks, worked out EDGE by EDGE."""
    gone = sum(sum_of(graph, counts, (edge,)) for edge in edges_on(path))
    return gone - sum(flows_in(graph, counts, name) for name in path[1:-1])


def as_bag(lot):
    """The runs of a LOT, one by one."""
    return [run for run, number in lot for _ in range(number)]


def from_bag(bag):
    return tuple((run, bag.count(run)) for run in sorted(set(bag)))


def exchanges_of(lot):
    """All other LOTS that come by one exchange, with each two runs and each block tried."""
    bag, found = as_bag(lot), set()
    for one, other in itertools.combinations(range(len(bag)), 2):
        for name in set(bag[one]) & set(bag[other]):
            here, there = bag[one].index(name), bag[other].index(name)
            rest = [run for at, run in enumerate(bag) if at not in (one, other)]
            crossed = [bag[one][:here] + bag[other][there:], bag[other][:there] + bag[one][here:]]
            found.add(from_bag(rest + crossed))
    return sorted(found - {lot})


def distances(lot):
    """How few exchanges lead from this LOT to each one that any lead to."""
    far, layer = {lot: 0}, [lot]
    while layer:
        layer = sorted({made for known in layer for made in exchanges_of(known)} - set(far))
        far.update({made: max(far.values()) + 1 for made in layer})
    return far


def rank(rows):
    """How many of the rows are of their own, none made of others."""
    many, left = 0, [row for row in rows if any(row)]
    while left:
        many, first = many + 1, left[0]
        at = next(at for at, part in enumerate(first) if part)
        cleared = [row if row[at] == 0 else [part * first[at] - own * row[at] for part, own in zip(row, first)]
                   for row in left[1:]]
        left = [row for row in cleared if any(row)]
    return many


def row_of_block(graph, name):
    """What of the numbers of the EDGES a THROUGH is made of."""
    side = 1 if name == exit_of(graph) else 0
    return [int(edge[side] == name) for edge in graph]


def row_of_edge(graph, edge):
    return [int(known == edge) for known in graph]


def rows_of(graph, counters):
    """What is always 0 of a SWING that the COUNTERS miss."""
    ends = (entry_of(graph), exit_of(graph))
    inner = [[(edge[1] == name) - (edge[0] == name) for edge in graph] for name in names_of(graph) if name not in ends]
    edges, places = counters
    return inner + [row_of_edge(graph, edge) for edge in edges] + [row_of_block(graph, name) for name in places]


def told(graph, counters):
    """The sets of the EDGES and of the blocks that the COUNTERS tell, by elimination."""
    rows = rows_of(graph, counters)
    known = rank(rows)
    edges = [edge for edge in graph if rank(rows + [row_of_edge(graph, edge)]) == known]
    places = [name for name in names_of(graph) if rank(rows + [row_of_block(graph, name)]) == known]
    return tuple(edges), tuple(places)


def are_enough(graph, counters):
    return rank(rows_of(graph, counters)) == len(graph)


def is_missed_swing(graph, counters, thing):
    if type(thing) is not tuple or len(thing) != len(graph) or not all(is_number(part) for part in thing):
        return False
    return any(thing) and all(sum(part * own for part, own in zip(row, thing)) == 0 for row in rows_of(graph, counters))


def is_counters(graph, thing):
    if type(thing) is not tuple or len(thing) != 2:
        return False
    return is_set_of(graph, thing[0]) and is_set_of(names_of(graph), thing[1])


def shown(graph, counters, counts):
    edges, places = counters
    passed = {name: flows_out(graph, counts, name) for name in names_of(graph)}
    passed[exit_of(graph)] = flows_in(graph, counts, exit_of(graph))
    return tuple(sum_of(graph, counts, (edge,)) for edge in edges), tuple(passed[name] for name in places)


def small_graphs(many):
    """All GRAPHS of just so many blocks, but for their names, whose order is not that of the EDGES."""
    names = "dbecagf"[:many]
    pairs = list(itertools.combinations(names, 2))
    for marks in itertools.product((False, True), repeat=len(pairs)):
        edges = tuple(sorted(pair for pair, marked in zip(pairs, marks) if marked))
        if len(names_of(edges)) == many and is_graph(edges):
            yield edges


def some_graphs(seed, many):
    """So many GRAPHS of up to 10 blocks and 16 EDGES, always the same ones for a seed."""
    chance = random.Random(seed)
    found = []
    while len(found) < many:
        names = chance.sample(["a", "b", "c", "d", "e", "aa", "ab", "zebra", "y", "zz", "oooooooo", "k"],
                              chance.randint(2, 10))
        pairs = list(itertools.combinations(names, 2))
        edges = tuple(sorted(chance.sample(pairs, chance.randint(1, min(16, len(pairs))))))
        if is_graph(edges):
            found.append(edges)
    return found


def some_lot(graph, seed, most, many):
    """A LOT of at most so many RUNS, each with a number up to the most."""
    chance = random.Random(seed)
    run_list = all_runs(graph)
    chosen = sorted(chance.sample(run_list, min(many, len(run_list))))
    return tuple((run, chance.randint(1, most)) for run in chosen)


def some_counts(graph, seed, most, many):
    return counts_of(graph, some_lot(graph, seed, most, many))


def as_lists(value):
    """The value with lists in the place of tuples, at any depth."""
    return [as_lists(part) for part in value] if isinstance(value, (list, tuple)) else value


def as_mixed(value, turn=0):
    """The value with lists in the place of every other tuple."""
    if not isinstance(value, (list, tuple)):
        return value
    parts = [as_mixed(part, turn + at + 1) for at, part in enumerate(value)]
    return parts if turn & 1 else tuple(parts)


def nested(value, levels):
    for _ in range(levels):
        value = (value,)
    return value


def twisted(thing):
    """Many values near this one: with a part put elsewhere, of another kind, doubled, left out, at any depth."""
    found = [as_lists(thing), as_mixed(thing), as_mixed(thing, 1), (thing,), [thing], None]
    if isinstance(thing, str):
        found += [thing + "a", thing.upper(), "", thing + " ", thing * 9, thing + "\u00e9", "\u0430", (thing,), 0, True]
    elif type(thing) is int:
        found += [thing + 1, thing - 1, -thing, True, False, str(thing), 10 ** 31, (thing,), [thing]]
    elif isinstance(thing, tuple):
        found += [list(thing), thing[::-1], thing + thing, thing[1:], thing[:-1], thing + ((),), thing + (None,)]
        found += [thing[:at] + thing[at + 1:] for at in range(len(thing))]
        found += [thing[:at + 1] + thing[at:] for at in range(len(thing))]
        found += [thing[:at] + (thing[at + 1], thing[at]) + thing[at + 2:] for at in range(len(thing) - 1)]
        for at, part in enumerate(thing):
            found += [thing[:at] + (other,) + thing[at + 1:] for other in twisted(part)]
    return found


ODD_THINGS = (
    None, True, False, 0, 1, -1, 10 ** 40, -10 ** 40, "", "a", "ab", "st", "s>t", (), [], ((),), [[]], ([],), [()],
    (((),),), ("a",), ("a", "b"), (("a", "b")), (("ab",),), ("ab", "cd"), (("a", "b"), None), (("a", "b"), 1),
    ((1, 2),), ((True, False),), (("a", 1),), ((1, "a"),), (("a", "a"),), (("a", "b", "c"),), (("A", "b"),),
    (("a", ""),), (("a", "abcdefghi"),), (("a", "b1"),), (("a", "b "),), ((("a",), "b"),), (("a", ["b"]),),
    [("a", "b")], (["a", "b"],), [["a", "b"]], (1,), (0,), (True,), (False,), (None,), ("1",), (-1,), (0, 0, 0),
    (True, True, True), (0, 0, False), [0, 0, 0], (0, 0, -0), ((("s", "t"), 0),), ((("s", "t"), True),),
    ((("s", "t"), -1),), ((("s", "t"), "1"),), ((["s", "t"], 1),), (("st", 1),), ([("s", "t"), 1],),
    [(("s", "t"), 1)], ((("s", "t"), 1, 1),), ((("s", "t"),),), ((("s", "t"), 1), None), (None, (("s", "t"), 1)),
    nested("a", 12), nested((), 11), nested(("a", "b"), 11), nested([0], 11), as_lists(nested(("a", "b"), 11)),
    (nested(0, 11), nested("a", 11)), ("s", nested("t", 11)), (("s", nested("t", 10)),), tuple(range(3000)),
    ("a", "b") * 3000, (("a", "b"),) * 3000, "a" * 100000, ((("s", "t"), 1),) * 3000,
)
