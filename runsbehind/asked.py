"""Lots told back: which PATHS to ask how often they were gone, so that just one LOT is left."""

from runsbehind.basics import is_ascending, plain, stands_in
from runsbehind.counts import counts_of, goes, is_lot
from runsbehind.errors import NoLot, Unfit
from runsbehind.graphs import all_paths, blocks, how_many_runs, is_path, runs
from runsbehind.lots import all_lots
from runsbehind.rows import cleared, left_open, solved_rows


def rows_along(graph, paths):
    """For each EDGE and for each of the PATHS the row that tells, RUN by RUN, whether it goes along."""
    along = runs(graph)
    return [[int(stands_in(path, run)) for run in along] for path in plain(graph) + plain(paths)]


def tells_all(graph, paths):
    """Whether no two LOTS with the same COUNTS go each of the PATHS alike often."""
    many = how_many_runs(graph)
    return len(cleared(rows_along(graph, paths), many)) == many


def fewest_telling(graph):
    """How few PATHS can tell all."""
    return how_many_runs(graph) + len(blocks(graph)) - 2 - len(graph)


def telling_paths(graph):
    """A set of as few PATHS as can be that tell all."""
    # What the EDGES leave open are the numbers of some RUNS; if these are told, all others follow.
    leads = cleared(rows_along(graph, ()), how_many_runs(graph))
    return tuple([run for at, run in enumerate(runs(graph)) if at not in leads])


def is_telling_paths(graph, thing):
    """Whether thing is a set of as few PATHS as can be that tell all."""
    if not isinstance(thing, tuple) or len(thing) != fewest_telling(graph):
        return False
    return all([is_path(graph, part) for part in thing]) and is_ascending(thing) and tells_all(graph, thing)


def parting_lots(graph, paths):
    """A pair of unlike LOTS with the same COUNTS that go each of the PATHS alike often; None if there is none."""
    numbers = left_open(rows_along(graph, paths), how_many_runs(graph))
    if numbers is None:
        return None
    return as_numbered(graph, numbers), as_numbered(graph, [-number for number in numbers])


def as_numbered(graph, numbers):
    """The LOT of the RUNS with these numbers, those left out that are not above 0."""
    return tuple([(run, number) for run, number in zip(runs(graph), numbers) if number > 0])


def is_parting_lots(graph, paths, thing):
    """Whether thing is a pair of unlike LOTS with the same COUNTS that go each of the PATHS alike often."""
    if not isinstance(thing, tuple) or len(thing) != 2 or not all([is_lot(graph, part) for part in thing]):
        return False
    one, other = thing
    if one == other or counts_of(graph, one) != counts_of(graph, other):
        return False
    return all([goes(one, path) == goes(other, path) for path in paths])


def answers_so(lot, answers):
    """Whether the LOT goes each of the PATHS so often as the answers say."""
    return all([goes(lot, path) == number for path, number in answers])


def lot_told(graph, counts, answers):
    """The LOT that has the COUNTS and answers so; raises Unfit if the PATHS do not tell all, then NoLot."""
    paths = [path for path, _ in answers]
    if not tells_all(graph, paths):
        raise Unfit()
    sums = list(counts) + [number for _, number in answers]
    lot = as_numbered(graph, solved_rows(rows_along(graph, paths), sums, how_many_runs(graph)))
    # No other one can be it; but this one may have lost numbers below 0, or come to other sums.
    if counts_of(graph, lot) != plain(counts) or not answers_so(lot, answers):
        raise NoLot()
    return lot


def told_back(graph, counts, asker):
    """The LOT with the COUNTS of which asker tells how often it goes a PATH; asks no more often than must be."""
    answers = [(path, asker(path)) for path in telling_paths(graph)]
    return lot_told(graph, counts, answers)


def lots_left(graph, counts, answers):
    """The ascending list of the LOTS that have the COUNTS and answer so."""
    return [lot for lot in all_lots(graph, counts) if answers_so(lot, answers)]


def parts_by(graph, counts, answers, path):
    """The ascending tuple of the pairs (number, how many of the LOTS that are left go the PATH so often)."""
    return tuple(sorted(how_many_by(lots_left(graph, counts, answers), path).items()))


def how_many_by(lots, path):
    """For each number that comes how many of the LOTS go the PATH so often."""
    many = {}
    for lot in lots:
        number = goes(lot, path)
        many[number] = many.get(number, 0) + 1
    return many


def best_ask(graph, counts, answers):
    """The least PATH by which the greatest part of the LOTS that are left is least; None if at most one is left."""
    lots = lots_left(graph, counts, answers)
    if len(lots) < 2:
        return None
    return min(all_paths(graph), key=lambda path: (max(list(how_many_by(lots, path).values())), path))


def fewest_asks(graph, counts, answers):
    """How many PATHS must be asked at the most, each chosen by what was told before, until at most one LOT is left."""
    lots = lots_left(graph, counts, answers)
    asks = sorted({tuple([goes(lot, path) for lot in lots]) for path in all_paths(graph)})
    known = {}
    many = 0
    while not can_part(tuple(range(len(lots))), asks, many, known):
        many += 1
    return many


def can_part(group, asks, many, known):
    """Whether so many asks, of those that tell a number of each LOT, part these LOTS, told by their places."""
    if len(group) < 2 or many == 0:
        return len(group) < 2
    # The same LOTS are left in many ways: known keeps what was found of them.
    if (group, many) not in known:
        found = False
        for ask in asks:
            parts = parts_of(group, ask)
            if not found and len(parts) > 1:
                found = all([can_part(part, asks, many - 1, known) for part in parts])
        known[(group, many)] = found
    return known[(group, many)]


def parts_of(group, ask):
    """The list of the parts of the group of which the ask tells unlike numbers."""
    parts = {}
    for place in group:
        parts[ask[place]] = parts.get(ask[place], ()) + (place,)
    return list(parts.values())
