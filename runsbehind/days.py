"""COUNTS of several days: what they tell day by day, what is lost in their sum, and which days to keep apart."""

from runsbehind.basics import plain, sets_of, stands_in
from runsbehind.counts import counts_of, is_counts
from runsbehind.errors import NoDay
from runsbehind.paths import balance, greatest_gone, least_gone, lot_going


def is_days(graph, thing):
    """Whether thing is DAYS of the GRAPH, of however many days."""
    return isinstance(thing, tuple) and len(thing) > 0 and all([is_counts(graph, part) for part in thing])


def days_together(graph, days):
    """The COUNTS of all days added up."""
    return tuple([sum([counts[at] for counts in days]) for at in range(len(graph))])


def excesses(graph, days, path):
    """For each day what the counts of the EDGES of the PATH come to, less the THROUGHs of its inner blocks."""
    return tuple([balance(graph, counts, path) for counts in days])


def sure_by_days(graph, days, path):
    """How often the PATH is surely gone on all days together, by the COUNTS of each day."""
    return sum([least_gone(graph, counts, path) for counts in days])


def sure_by_sum(graph, days, path):
    """How often the PATH is surely gone on all days together, by the sum of their COUNTS alone."""
    return least_gone(graph, days_together(graph, days), path)


def hidden(graph, days, path):
    """How much less the PATH is surely gone by the sum than by the days."""
    return sure_by_days(graph, days, path) - sure_by_sum(graph, days, path)


def top_by_days(graph, days, path):
    """How often the PATH may be gone at the most on all days together, by the COUNTS of each day."""
    return sum([greatest_gone(graph, counts, path) for counts in days])


def top_by_sum(graph, days, path):
    """How often the PATH may be gone at the most on all days together, by the sum of their COUNTS alone."""
    return greatest_gone(graph, days_together(graph, days), path)


def top_hidden(graph, days, path):
    """How much more often the PATH may be gone by the sum than by the days."""
    return top_by_sum(graph, days, path) - top_by_days(graph, days, path)


def may_be_in_all(graph, days, path, number):
    """Whether the PATH may have been gone so often on all days together."""
    return sure_by_days(graph, days, path) <= number <= top_by_days(graph, days, path)


def day_range(graph, days, path, number, day):
    """The pair of how often at the least, at the most, of so many times the PATH was gone on this day; maybe None."""
    if not 0 <= day < len(days):
        raise NoDay(day)
    if not may_be_in_all(graph, days, path, number):
        return None
    least, greatest = least_gone(graph, days[day], path), greatest_gone(graph, days[day], path)
    # What the other days have at the most must be enough for the rest; what they have at the least must find room.
    lacking = number - (top_by_days(graph, days, path) - greatest)
    room = number - (sure_by_days(graph, days, path) - least)
    return max(least, lacking), min(greatest, room)


def fewest_days(graph, days, path, number):
    """On how few days the PATH may have been gone if it was gone so often; None if it can't have been."""
    if not may_be_in_all(graph, days, path, number):
        return None
    sure = [counts for counts in days if least_gone(graph, counts, path) > 0]
    others = [greatest_gone(graph, counts, path) for counts in days if least_gone(graph, counts, path) == 0]
    room, many = top_by_days(graph, sure, path), len(sure)
    for more in sorted(others, reverse=True):
        if room < number:
            room += more
            many += 1
    return many


def most_days(graph, days, path, number):
    """On how many days the PATH may have been gone if it was gone so often; None if it can't have been."""
    if not may_be_in_all(graph, days, path, number):
        return None
    sure = [counts for counts in days if least_gone(graph, counts, path) > 0]
    open_days = [counts for counts in days if least_gone(graph, counts, path) == 0]
    others = [counts for counts in open_days if greatest_gone(graph, counts, path) > 0]
    # Each other day takes one time at least of those that are not sure.
    return len(sure) + min(len(others), number - sure_by_days(graph, days, path))


def all_excesses(graph, days, paths):
    """For each of the PATHS the tuple of its excesses, day by day."""
    return [excesses(graph, days, path) for path in plain(paths)]


def kept_in(rows, many, cuts):
    """What is above 0 of the sums of the rows, each with so many numbers, over the stretches that begin at the cuts."""
    begins = (0,) + cuts
    ends = cuts + (many,)
    kept = 0
    for row in rows:
        kept += sum([max(0, sum(row[begin:end])) for begin, end in zip(begins, ends)])
    return kept


def kept_by(graph, days, paths, cuts):
    """How often all PATHS together are surely gone by the sums of the stretches that begin at the cuts."""
    for day in cuts:
        if not 1 <= day < len(days):
            raise NoDay(day)
    return kept_in(all_excesses(graph, days, paths), len(days), plain(cuts))


def fewest_cuts(graph, days, paths):
    """How few cuts keep as much as if each day is a stretch by itself."""
    rows = all_excesses(graph, days, paths)
    many, begin = 0, 0
    for day in range(len(days)):
        # Only days on which an excess is above 0 and below 0 must not be added up: so a stretch goes on till then.
        if any([min(row[begin:day + 1]) < 0 < max(row[begin:day + 1]) for row in rows]):
            many, begin = many + 1, day
    return many


def best_cuts(graph, days, paths, most):
    """Of the sets of at most so many cuts that keep the most the least one of those with the fewest."""
    rows, places = all_excesses(graph, days, paths), tuple(range(1, len(days)))
    sets = [cuts for many in range(min(most, len(places)) + 1) for cuts in sets_of(places, many)]
    return min(sets, key=lambda cuts: (-kept_in(rows, len(days), cuts), len(cuts), cuts))


def day_split(graph, counts, path, number):
    """A pair of COUNTS that come to counts, by which, as DAYS, the PATH is surely gone just so often; maybe None."""
    lot = lot_going(graph, counts, path, number)
    if lot is None:
        return None
    # Each RUN that goes the PATH makes its excess 1 more; no other one does.
    along = [share for share in lot if stands_in(plain(path), share[0])]
    others = [share for share in lot if not stands_in(plain(path), share[0])]
    return counts_of(graph, along), counts_of(graph, others)


def is_day_split(graph, counts, path, number, thing):
    """Whether thing is such a pair."""
    if not is_days(graph, thing) or len(thing) != 2 or days_together(graph, thing) != plain(counts):
        return False
    return sure_by_days(graph, thing, path) == number
