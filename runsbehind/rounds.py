"""Numbers that go round on arcs (begin, end, low, high): as much to each place as from it, each between its bounds."""

from runsbehind.flows import most_flow, places_found
from runsbehind.graphs import entry_of, exit_of

# Entry and exit as one place, and two places beside all others: no NAME is written so.
HOME = ""
FIRST = "FIRST"
LAST = "LAST"


def round_arcs(graph, ranges):
    """The arcs of the EDGES with these bounds; COUNTS are what goes round if entry and exit are one place."""
    ends = (entry_of(graph), exit_of(graph))
    arcs = []
    for edge, bounds in zip(graph, ranges):
        begin, end = [HOME if name in ends else name for name in edge]
        arcs.append((begin, end, bounds[0], bounds[1]))
    return arcs


def surpluses(arcs, numbers):
    """For each place how much more the numbers bring to it than they take from it."""
    more = {}
    for arc, number in zip(arcs, numbers):
        more[arc[0]] = more.get(arc[0], 0) - number
        more[arc[1]] = more.get(arc[1], 0) + number
    return more


def pushes(arcs, numbers):
    """The ways to change a number within its bounds: (from, to, room, place of the arc, 1 or -1)."""
    found = []
    for at, (begin, end, low, high) in enumerate(arcs):
        found.append((begin, end, high - numbers[at], at, 1))
        found.append((end, begin, numbers[at] - low, at, -1))
    return [push for push in found if push[2] > 0]


def settled(arcs, numbers):
    """The pair of these numbers, changed such that they go round, and the places where that gets stuck, if it does."""
    moves = pushes(arcs, numbers)
    more = surpluses(arcs, numbers)
    sources = [(FIRST, place, number) for place, number in more.items() if number > 0]
    sinks = [(place, LAST, -number) for place, number in more.items() if number < 0]
    network = moves + sources + sinks
    flow = most_flow(network, FIRST, LAST)
    changed = list(numbers)
    for push, gone in zip(moves, flow):
        changed[push[3]] += push[4] * gone
    # More comes to these places than may be taken from them: so if any are left, nothing goes round.
    stuck = [place for place in places_found(network, flow, FIRST) if place != FIRST]
    return tuple(changed), stuck


def bar_at(graph, stuck):
    """The pair (set of inner blocks, "in" or "out") that shows why numbers got stuck at these places."""
    if HOME not in stuck:
        return tuple(sorted(stuck)), "in"
    ends = (entry_of(graph), exit_of(graph))
    others = {name for edge in graph for name in edge if name not in stuck and name not in ends}
    return tuple(sorted(others)), "out"


def sum_span(arcs, numbers, weights):
    """The pair of the least and the greatest sum of weighted numbers that go round; those given must go round."""
    least = weighted(cheapest(arcs, numbers, weights), weights)
    turned_weights = [-weight for weight in weights]
    return least, weighted(cheapest(arcs, numbers, turned_weights), weights)


def weighted(numbers, weights):
    """What the numbers come to, each taken as often as its weight says."""
    return sum([number * weight for number, weight in zip(numbers, weights)])


def cheapest(arcs, numbers, costs):
    """Numbers that go round and cost as little as can be, each so much apiece; those given must go round."""
    best = list(numbers)
    ring = least_ring(pushes(arcs, best), costs)
    # Always the ring with the least cost for each step: so there are few of them, however great the numbers are.
    while ring:
        room = min([push[2] for push in ring])
        for push in ring:
            best[push[3]] += push[4] * room
        ring = least_ring(pushes(arcs, best), costs)
    return tuple(best)


def least_ring(moves, costs):
    """The pushes of a ring with the least cost for each step, if that is below 0; [] if there is no such ring."""
    tables = walks(moves, costs)
    last = tables[-1]
    means = {place: greatest_mean(tables, place) for place in last}
    best = None
    for place in means:
        if best is None or means[place][0] * means[best][1] < means[best][0] * means[place][1]:
            best = place
    if best is None or means[best][0] >= 0:
        return []
    return ring_on(tables, best)


def walks(moves, costs):
    """For each number of pushes, up to that of the places: for each place the (cost, last push) of a cheapest walk."""
    places = {place: True for push in moves for place in push[:2]}
    tables = [{place: (0, None) for place in places}]
    for many in range(len(places)):
        ahead, table = tables[many], {}
        for push in moves:
            if push[0] in ahead:
                cost = ahead[push[0]][0] + push[4] * costs[push[3]]
                if push[1] not in table or cost < table[push[1]][0]:
                    table[push[1]] = (cost, push)
        tables.append(table)
    return tables


def greatest_mean(tables, place):
    """The greatest cost for each push, as (cost, pushes), that the longest walk to the place has more than another."""
    # The least one of these, of all places, is that of the ring with the least mean cost (so Karp found). Where a walk
    # leads, each shorter one leads, too, that is left if its first pushes are not made.
    many = len(tables) - 1
    best = None
    for fewer in range(many):
        cost, pushes_more = tables[many][place][0] - tables[fewer][place][0], many - fewer
        if best is None or cost * best[1] > best[0] * pushes_more:
            best = (cost, pushes_more)
    return best


def ring_on(tables, place):
    """The pushes of a ring that the longest walk to the place goes round."""
    walk = []
    seen = {place: 0}
    here = place
    for table in reversed(tables):
        push = table[here][1]
        walk.append(push)
        here = push[0]
        if here in seen:
            break
        seen[here] = len(walk)
    return walk[seen[here]:]
