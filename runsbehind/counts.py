"""COUNTS on the EDGES of a GRAPH, and the LOTS of RUNS that have them."""

from runsbehind.basics import is_number, plain, stands_in, steps
from runsbehind.graphs import blocks, entry_of, exit_of, in_order, is_run, need_block, next_blocks, runs
from runsbehind.graphs import turned, ways_on


def is_counts(graph, thing):
    """Whether thing is COUNTS of the GRAPH."""
    if not isinstance(thing, tuple) or len(thing) != len(graph):
        return False
    return all([is_number(part) and part >= 0 for part in thing]) and unbalanced(graph, thing) == ()


def sums_at(graph, numbers, side):
    """For each block what the numbers of the EDGES from it (side 0) or of those to it (side 1) come to."""
    sums = {name: 0 for name in blocks(graph)}
    for edge, number in zip(graph, numbers):
        sums[edge[side]] += number
    return sums


def inner_blocks(graph):
    """The set of the blocks that are neither the entry nor the exit."""
    ends = (entry_of(graph), exit_of(graph))
    return tuple(name for name in blocks(graph) if name not in ends)


def unbalanced(graph, numbers):
    """The set of the inner blocks to which the numbers bring more, or less, than they take from them."""
    leaving, coming = sums_at(graph, numbers, 0), sums_at(graph, numbers, 1)
    return tuple(name for name in inner_blocks(graph) if leaving[name] != coming[name])


def throughs(graph, counts):
    """For each block its THROUGH."""
    sums = sums_at(graph, counts, 0)
    sums[exit_of(graph)] = total(graph, counts)
    return sums


def through(graph, counts, block):
    """The THROUGH of the block."""
    need_block(graph, block)
    return throughs(graph, counts)[block]


def total(graph, counts):
    """The TOTAL of the COUNTS."""
    return sums_at(graph, counts, 0)[entry_of(graph)]


def is_lot(graph, thing):
    """Whether thing is a LOT of the GRAPH."""
    if not isinstance(thing, tuple):
        return False
    ahead = ()
    for part in thing:
        if not is_share(graph, part) or part[0] <= ahead:
            return False
        ahead = part[0]
    return True


def is_share(graph, thing):
    """Whether thing is a pair of a RUN and a number from 1."""
    if not isinstance(thing, tuple) or len(thing) != 2:
        return False
    return is_run(graph, thing[0]) and is_number(thing[1]) and thing[1] >= 1


def counts_of(graph, lot):
    """The COUNTS that the LOT has."""
    many = {edge: 0 for edge in plain(graph)}
    for run, number in lot:
        for edge in steps(run):
            many[edge] += number
    return tuple(many[edge] for edge in plain(graph))


def goes(lot, path):
    """How often the LOT goes the PATH."""
    path = plain(path)
    return sum([number for run, number in plain(lot) if stands_in(path, run)])


def as_lot(shares):
    """The LOT of these pairs (RUN, number from 1), the numbers of each RUN added up."""
    many = {}
    for run, number in shares:
        many[run] = many.get(run, 0) + number
    return tuple(sorted(many.items()))


def lots_together(one, other):
    """The LOT in which each RUN has its numbers in both, added up."""
    return as_lot(plain(one) + plain(other))


def each_once(graph):
    """The COUNTS of the LOT of all RUNS of the GRAPH, each once."""
    onward, back = ways_on(graph, exit_of(graph)), ways_on(turned(graph), entry_of(graph))
    return tuple(back[begin] * onward[end] for begin, end in graph)


def a_lot(graph, counts):
    """A LOT that has these COUNTS, with at most enough_runs different RUNS."""
    return lot_along(graph, counts, (), 0)


def lot_along(graph, counts, path, number):
    """A LOT with these COUNTS that goes the PATH just so often, which must be possible; any such LOT if path is ()."""
    return lot_dealt(graph, counts, lambda name, bundles, wants: put_along(name, bundles, wants, path, number))


def lot_dealt(graph, counts, put):
    """The LOT that comes if at each block the bundles there are dealt to the wants as put puts both in order."""
    many = dict(zip(plain(graph), counts))
    after = next_blocks(graph)
    first = entry_of(graph)
    come = {name: [] for name in after}
    come[first].append(((first,), total(graph, counts)))
    for name in in_order(graph):
        bundles, wants = put(name, come[name], [(end, many[(name, end)]) for end in after[name]])
        for piece in dealt(bundles, wants):
            come[piece[0][-1]].append(piece)
    return as_lot(come[exit_of(graph)])


def put_along(name, bundles, wants, path, number):
    """Bundles and wants at this block, put so that the LOT goes the PATH just so often."""
    if name not in path[1:-1]:
        return bundles, wants
    at = path.index(name)
    return held_back(bundles, wants, path[:at + 1], path[at + 1], number)


def held_back(bundles, wants, begun, end, number):
    """Bundles and wants, put so that dealt leads as few as can be, but at least number, from begun on to end."""
    carried = [bundle for bundle in bundles if bundle[0][-len(begun):] == begun]
    others = [bundle for bundle in bundles if bundle[0][-len(begun):] != begun]
    elsewhere = [want for want in wants if want[0] != end]
    wanted = sum([want[1] for want in wants if want[0] == end])
    # What of the carried ones finds no room elsewhere must go on to end, whether it is wished or not.
    forced = sum([bundle[1] for bundle in carried]) - sum([want[1] for want in elsewhere])
    first = max(number, forced)
    return carried + others, [(end, first)] + elsewhere + [(end, wanted - first)]


def dealt(bundles, wants):
    """The bundles (way, number), dealt in their order to the wants (block, number) in theirs: the longer bundles."""
    pieces = []
    stock = list(reversed(bundles))
    for end, wanted in wants:
        left = wanted
        while left > 0:
            way, number = stock.pop()
            taken = min(left, number)
            pieces.append((way + (end,), taken))
            left -= taken
            if number > taken:
                stock.append((way, number - taken))
    return pieces


def is_lot_for(graph, counts, thing):
    """Whether thing is a LOT that has these COUNTS."""
    return is_lot(graph, thing) and counts_of(graph, thing) == plain(counts)


def enough_runs(graph, counts):
    """How many EDGES have a count above 0, less how many inner blocks have a THROUGH above 0."""
    passed = throughs(graph, counts)
    live = len([number for number in counts if number > 0])
    return live - len([name for name in inner_blocks(graph) if passed[name] > 0])


def fewest_runs(graph, counts):
    """How many different RUNS a LOT that has these COUNTS has at the least."""
    return runs_in_lots(graph, counts)[0]


def most_runs(graph, counts):
    """How many different RUNS a LOT that has these COUNTS has at the most."""
    return runs_in_lots(graph, counts)[1]


def runs_in_lots(graph, counts):
    """The pair of how many different RUNS a LOT with these COUNTS has at the least and at the most."""
    place = {edge: at for at, edge in enumerate(plain(graph))}
    along = [[place[edge] for edge in steps(run)] for run in runs(graph)]
    last_use = {at: turn for turn, places in enumerate(along) for at in places}
    # What is still left of the counts tells all that later RUNS must know of the choices before them.
    layer = {plain(counts): (0, 0)}
    for turn, places in enumerate(along):
        closing = [at for at in places if last_use[at] == turn]
        layer = with_run(layer, places, closing)
    return layer[(0,) * len(place)]


def with_run(layer, places, closing):
    """The table of counts left, with how few and how many RUNS were taken, after one more RUN along these places."""
    following = {}
    for left, (fewest, most) in layer.items():
        for number in times_that_fit(left, places, closing):
            rest = taken_off(left, places, number)
            used = 1 if number > 0 else 0
            least, greatest = following.get(rest, (fewest + used, most + used))
            following[rest] = (min(least, fewest + used), max(greatest, most + used))
    return following


def times_that_fit(left, places, closing):
    """How often a RUN along these places can be taken off the counts left, if it must use up those in closing."""
    room = min([left[at] for at in places])
    if not closing:
        return list(range(room + 1))
    return [room] if all([left[at] == room for at in closing]) else []


def taken_off(left, places, number):
    """The counts left after a RUN along these places was taken off them so many times."""
    return tuple([count - number if at in places else count for at, count in enumerate(left)])
