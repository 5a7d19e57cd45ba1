"""The most that can go from one place to another along arcs (begin, end, room), each of which has room for so much."""


def most_flow(arcs, first, last):
    """For each arc how much goes along it if as much as can be goes from first to last."""
    flow = [0] * len(arcs)
    found = places_found(arcs, flow, first)
    while last in found:
        way = way_found(arcs, found, last)
        more = min([room_left(arcs[at], flow[at], sign) for at, sign in way])
        for at, sign in way:
            flow[at] += sign * more
        found = places_found(arcs, flow, first)
    return flow


def places_found(arcs, flow, first):
    """For each place to which more can come from first the step that leads to it: (place of the arc, 1 or -1)."""
    # The nearest places come first: so the ways are short, and however great the room is, there are few of them.
    found = {first: None}
    queue = [first]
    turn = 0
    while turn < len(queue):
        for at, arc in enumerate(arcs):
            for sign, begin, end in ((1, arc[0], arc[1]), (-1, arc[1], arc[0])):
                if begin == queue[turn] and end not in found and room_left(arc, flow[at], sign) > 0:
                    found[end] = (at, sign)
                    queue.append(end)
        turn += 1
    return found


def room_left(arc, gone, sign):
    """How much more can go along the arc (sign 1), or can be taken back (sign -1), if so much goes along it."""
    return arc[2] - gone if sign > 0 else gone


def way_found(arcs, found, last):
    """The steps, from the last one on, by which last was found."""
    way = []
    place = last
    while found[place] is not None:
        at, sign = found[place]
        way.append((at, sign))
        place = arcs[at][0] if sign > 0 else arcs[at][1]
    return way


def most_to(arcs, first, last):
    """How much can go from first to last, from which no arc leads, at the most."""
    flow = most_flow(arcs, first, last)
    return sum([gone for arc, gone in zip(arcs, flow) if arc[1] == last])


def least_cut(arcs, first, last):
    """The places of arcs, with the least room together, without which nothing can go from first to last."""
    found = places_found(arcs, most_flow(arcs, first, last), first)
    return [at for at, arc in enumerate(arcs) if arc[0] in found and arc[1] not in found]
