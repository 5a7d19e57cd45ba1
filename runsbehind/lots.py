"""The LOTS that have the same COUNTS beside one another, and the exchanges that lead from one to another."""

from runsbehind.basics import is_number, plain, steps
from runsbehind.counts import a_lot, as_lot, counts_of, goes, is_lot_for, total
from runsbehind.errors import NoBlock, NoLot, NoNumber
from runsbehind.graphs import blocks, entry_of, exit_of, in_order, need_block, next_blocks, runs, turned, ways_on
from runsbehind.paths import greatest_gone, least_gone, lot_going


def live_edges(graph, counts):
    """The set of the EDGES whose count is above 0."""
    return tuple([edge for edge, count in zip(plain(graph), counts) if count > 0])


def live_runs(graph, counts):
    """The ascending list of the RUNS all EDGES of which are live."""
    live = live_edges(graph, counts)
    return [run for run in runs(graph) if all([edge in live for edge in steps(run)])]


def live_ways(graph, counts):
    """For each block the pair of how many live PATHS lead to it from the entry, and from it to the exit."""
    live, first, last = live_edges(graph, counts), entry_of(graph), exit_of(graph)
    back, onward = ways_on(turned(live), first), ways_on(live, last)
    # The ends count with 1 for themselves, also where no EDGE at them is live.
    back[first] = onward[last] = 1
    return {name: (back.get(name, 0), onward.get(name, 0)) for name in blocks(graph)}


def ways_at(graph, counts, block):
    """The pair of how many live PATHS lead to this block from the entry, and from it to the exit."""
    need_block(graph, block)
    return live_ways(graph, counts)[block]


def open_blocks(graph, counts):
    """The set of the blocks with two live PATHS or more to them from the entry, and from them to the exit."""
    ways = live_ways(graph, counts)
    return tuple([name for name in blocks(graph) if min(ways[name]) > 1])


def freedom(graph, counts):
    """How many live RUNS there are more than the live EDGES less the blocks at them, 2 more."""
    live = live_edges(graph, counts)
    if not live:
        return 0
    return len(live_runs(graph, counts)) - (len(live) - len(blocks(live)) + 2)


def is_only_lot(graph, counts):
    """Whether only one LOT has these COUNTS."""
    return open_blocks(graph, counts) == ()


def only_lot(graph, counts):
    """The only LOT that has these COUNTS; None if there are several."""
    return a_lot(graph, counts) if is_only_lot(graph, counts) else None


def own_edges(graph, counts, run):
    """The set of the live EDGES of this RUN along which no other live RUN goes; () if it is not live."""
    run, live = plain(run), live_runs(graph, counts)
    if run not in live:
        return ()
    shared = {edge for other in live if other != run for edge in steps(other)}
    return tuple(sorted([edge for edge in steps(run) if edge not in shared]))


def lots_apart(graph, counts):
    """A pair of two LOTS with these COUNTS that are not the same; None if there is only one."""
    # LOTS that are not the same go some RUN unlike often.
    for run in live_runs(graph, counts):
        least, greatest = least_gone(graph, counts, run), greatest_gone(graph, counts, run)
        if least < greatest:
            return lot_going(graph, counts, run, least), lot_going(graph, counts, run, greatest)
    return None


def is_lots_apart(graph, counts, thing):
    """Whether thing is a pair of two LOTS with these COUNTS that are not the same."""
    if not isinstance(thing, tuple) or len(thing) != 2 or thing[0] == thing[1]:
        return False
    return is_lot_for(graph, counts, thing[0]) and is_lot_for(graph, counts, thing[1])


def in_both(one, other):
    """The LOT in which each RUN has the lesser one of its numbers in both."""
    many = dict(plain(other))
    return tuple([(run, min(number, many[run])) for run, number in plain(one) if run in many])


def how_unlike(one, other):
    """The TOTAL, less how many runs both LOTS, which have the same COUNTS, have alike."""
    alike = in_both(one, other)
    return sum([number for _, number in one]) - sum([number for _, number in alike])


def exchanged(lot, one, other, block):
    """The LOT that comes if a run of one and a run of other exchange what follows the block."""
    lot, one, other = plain(lot), plain(one), plain(other)
    had = [run for run, _ in lot]
    if one not in had or other not in had:
        raise NoLot()
    if block not in one or block not in other:
        raise NoBlock(block)
    return replaced(lot, (one, other), crossed(one, other, block))


def crossed(one, other, block):
    """The pair of RUNS that come if these two exchange what follows the block."""
    here, there = one.index(block), other.index(block)
    return one[:here] + other[there:], other[:there] + one[here:]


def replaced(lot, gone, come):
    """The LOT with a run fewer of each of the RUNS gone, and one more of each of those that come."""
    many = dict(lot)
    for run in gone:
        many[run] -= 1
    for run in come:
        many[run] = many.get(run, 0) + 1
    return tuple(sorted([(run, number) for run, number in many.items() if number > 0]))


def crossings(one, other):
    """The ascending list of all pairs of other RUNS that come if these two exchange what follows a block."""
    pairs = [crossed(one, other, name) for name in one[1:-1] if name in other]
    return sorted({pair for pair in pairs if pair[0] not in (one, other)})


def exchanges_of(lot):
    """The ascending list of all other LOTS that come of this one by one exchange."""
    lot = plain(lot)
    made = {}
    for at, (one, _) in enumerate(lot):
        for other, _ in lot[at + 1:]:
            for pair in crossings(one, other):
                made[replaced(lot, (one, other), pair)] = True
    return sorted(made)


def how_many_lots(graph, counts):
    """How many LOTS have these COUNTS."""
    if freedom(graph, counts) > 1:
        return len(all_lots(graph, counts))
    # One RUN tells all the others: so there is a LOT for each number that a RUN can have.
    spans = [greatest_gone(graph, counts, run) - least_gone(graph, counts, run) for run in live_runs(graph, counts)]
    return 1 + max(spans, default=0)


def all_lots(graph, counts):
    """The ascending list of all LOTS that have these COUNTS."""
    many, after = dict(zip(plain(graph), counts)), next_blocks(graph)
    found = [(((entry_of(graph),), total(graph, counts)),)]
    # Ways that are dealt unlike are never the same LOT again, and always become one: so nothing is found in vain.
    for name in in_order(graph)[:-1]:
        room = tuple([many[(name, end)] for end in after[name]])
        found = [longer for bundles in found for longer in all_dealt(bundles, name, after[name], room)]
    return sorted([as_lot(bundles) for bundles in found])


def all_dealt(bundles, name, ends, room):
    """All tuples of bundles (way, number) that can come of these if those at the block go on, as the ends have room."""
    found = [((), room)]
    for way, number in bundles:
        if way[-1] != name:
            found = [(pieces + ((way, number),), left) for pieces, left in found]
        else:
            found = [(pieces + pieces_of(way, ends, parts), taken_from(left, parts))
                     for pieces, left in found for parts in shares(number, left)]
    return [pieces for pieces, _ in found]


def pieces_of(way, ends, parts):
    """The bundles that come of a way if so many parts of it go on to the ends."""
    return tuple([(way + (end,), part) for end, part in zip(ends, parts) if part > 0])


def taken_from(left, parts):
    """What is left of the room if these parts are taken from it."""
    return tuple([room - part for room, part in zip(left, parts)])


def shares(number, left):
    """All tuples of parts that come to number, of which none is above what is left at its place."""
    found = [()]
    for at, room in enumerate(left):
        behind = sum(left[at + 1:])
        found = [parts + (part,) for parts in found
                 for part in range(max(0, number - sum(parts) - behind), min(room, number - sum(parts)) + 1)]
    return found


def nth_lot(graph, counts, number):
    """The LOT with this number among those that have these COUNTS; raises NoNumber if there is none."""
    lots = all_lots(graph, counts)
    if not 0 <= number < len(lots):
        raise NoNumber(number)
    return lots[number]


def number_of_lot(graph, lot):
    """The number of this LOT among those that have its COUNTS."""
    return all_lots(graph, counts_of(graph, lot)).index(plain(lot))


def lots_by(graph, counts, path):
    """The ascending tuple of pairs (number, how many of the LOTS with these COUNTS go the PATH just so often)."""
    many = {}
    for lot in all_lots(graph, counts):
        number = goes(lot, path)
        many[number] = many.get(number, 0) + 1
    return tuple(sorted(many.items()))


def fewest_exchanges(graph, one, other):
    """How few exchanges lead from one LOT to the other one; None if they do not have the same COUNTS."""
    way = exchange_way(graph, one, other)
    return None if way is None else len(way) - 1


def exchange_way(graph, one, other):
    """A tuple of LOTS from one to other, each made of the one ahead of it by an exchange, with as few as can be."""
    one, other = plain(one), plain(other)
    if counts_of(graph, one) != counts_of(graph, other):
        return None
    back, onward = {one: None}, {other: None}
    left, right = [one], [other]
    # Exchanges can be taken back: so the way is sought from both ends, always where fewer LOTS were come to.
    met = [lot for lot in left if lot in onward]
    while not met:
        if len(left) <= len(right):
            left = spread(left, back)
        else:
            right = spread(right, onward)
        met = [lot for lot in left if lot in onward]
    ahead = way_by(met[0], back)
    return tuple(list(reversed(ahead)) + way_by(met[0], onward)[1:])


def spread(layer, known):
    """The LOTS, not known before, that come by one exchange of those of the layer; known then tells of which."""
    following = []
    for lot in layer:
        for made in exchanges_of(lot):
            if made not in known:
                known[made] = lot
                following.append(made)
    return following


def way_by(lot, known):
    """The list of LOTS from this one on, each next one that of which the one ahead of it was made."""
    way = [lot]
    while known[way[-1]] is not None:
        way.append(known[way[-1]])
    return way


def is_exchange_way(one, other, thing):
    """Whether thing is a tuple of LOTS from one to other, each next one made of the one ahead of it by an exchange."""
    if not isinstance(thing, tuple) or not thing or not all([has_lot_form(part) for part in thing]):
        return False
    if thing[0] != plain(one) or thing[-1] != plain(other):
        return False
    for at in range(len(thing) - 1):
        if not is_exchange(thing[at], thing[at + 1]):
            return False
    return True


def has_lot_form(thing):
    """Whether thing is a tuple of pairs of a tuple of strings and a number, as all LOTS are."""
    # So nothing but a LOT is equal to one: True is equal to 1, too.
    if not isinstance(thing, tuple) or not all([isinstance(part, tuple) and len(part) == 2 for part in thing]):
        return False
    return all([is_way_form(way) and is_number(number) for way, number in thing])


def is_way_form(thing):
    """Whether thing is a tuple of strings."""
    return isinstance(thing, tuple) and all([isinstance(name, str) for name in thing])


def is_exchange(lot, following):
    """Whether what follows, which has the form of a LOT, is another LOT, made of this one by one exchange."""
    left = dict(following)
    fewer = [run for run, number in lot if left.get(run, 0) < number]
    # An exchange takes one of each of two RUNS, neither of which comes again of it.
    return len(fewer) == 2 and following in [replaced(lot, fewer, pair) for pair in crossings(fewer[0], fewer[1])]
