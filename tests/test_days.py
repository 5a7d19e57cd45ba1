"""Promise [13], and [1] (d): each function of days.py, compared with all LOTS of each day and all sets of cuts."""

import itertools
import random
import unittest

from runsbehind import days
from runsbehind.errors import NoDay

from tests import oracle, oracle_bounds
from tests.oracle import DEEP, FORK, LADDER, ONE_EDGE, SKIP, STAIRS, TWOFOLD
from tests.test_counts import SMALL

GREAT = 10 ** 30
GOOD = (7, 3, 6, 4, 6, 4, 7, 3)
DAYS = (GOOD, (1, 9, 2, 8, 2, 8, 1, 9), (4, 6, 5, 5, 5, 5, 4, 6))
PATH, REST = ("a", "m", "c"), ("b", "m", "d")


def some_days(graph, seed, most, many):
    return tuple(oracle.some_counts(graph, (seed, day).__repr__(), most, 1 + day * 7 // 5) for day in range(many))


def some_paths(graph, seed, many):
    chance = random.Random(seed)
    known = oracle.all_paths(graph)
    return chance.sample(known, min(many, len(known)))


def worlds():
    """GRAPHS with DAYS of small COUNTS, so that all LOTS of each day can be gone through."""
    for seed, graph in enumerate(SMALL + [SKIP, ONE_EDGE, FORK, FORK, DEEP, TWOFOLD]):
        for many in (1, 2, 3, 4):
            yield graph, some_days(graph, seed, 2, many)


ALL = list(worlds())


def great_worlds():
    for seed, graph in enumerate([LADDER, STAIRS, TWOFOLD, FORK, FORK, DEEP, ONE_EDGE] + oracle.some_graphs("days", 8)):
        for most in (2, 9, GREAT):
            yield graph, some_days(graph, seed, most, 8)


GREATS = list(great_worlds())


class Forms(unittest.TestCase):
    def test_is_days(self):
        for graph, thing in ((SKIP, ((2, 1, 1), (0, 0, 0))), (ONE_EDGE, ((GREAT,),) * 9), (FORK, DAYS)):
            self.assertIs(days.is_days(graph, thing), True)
            for other in oracle.twisted(thing) + list(oracle.ODD_THINGS) + [(part,) for part in oracle.ODD_THINGS]:
                expected = type(other) is tuple and other != () and all(oracle.is_counts(graph, part) for part in other)
                self.assertIs(days.is_days(graph, other), expected, other)

    def test_sums_and_excesses(self):
        for graph, known in ALL + GREATS:
            self.assertEqual(days.days_together(graph, known), oracle_bounds.sums(known))
            for path in some_paths(graph, 1, 6):
                expected = tuple(oracle.surplus(graph, numbers, path) for numbers in known)
                self.assertEqual(days.excesses(graph, known, path), expected)


class Together(unittest.TestCase):
    def test_sums_of_numbers(self):
        for graph, known in ALL + GREATS:
            for path in some_paths(graph, 2, 9):
                least = sum(oracle_bounds.sure(graph, numbers, path) for numbers in known)
                whole = oracle_bounds.sums(known)
                top = sum(self.least_on(graph, numbers, path) for numbers in known)
                least_by_sum, top_by_sum = oracle_bounds.sure(graph, whole, path), self.least_on(graph, whole, path)
                self.assertEqual(days.sure_by_days(graph, known, path), least)
                self.assertEqual(days.sure_by_sum(graph, known, path), least_by_sum)
                self.assertEqual(days.hidden(graph, known, path), least - least_by_sum)
                self.assertEqual(days.top_by_days(graph, known, path), top)
                self.assertEqual(days.top_by_sum(graph, known, path), top_by_sum)
                self.assertEqual(days.top_hidden(graph, known, path), top_by_sum - top)
                self.check_guarantees(graph, known, path)

    def least_on(self, graph, numbers, path):
        return min(oracle.sum_of(graph, numbers, (edge,)) for edge in oracle.edges_on(path))

    def check_guarantees(self, graph, known, path):
        excesses = [oracle.surplus(graph, numbers, path) for numbers in known]
        self.assertGreaterEqual(days.hidden(graph, known, path), 0)
        self.assertEqual(days.hidden(graph, known, path) == 0, not min(excesses) < 0 < max(excesses))
        rows = [[oracle.sum_of(graph, numbers, (edge,)) for edge in oracle.edges_on(path)] for numbers in known]
        always = any(all(row[at] == min(row) for row in rows) for at in range(len(path) - 1))
        self.assertGreaterEqual(days.top_hidden(graph, known, path), 0)
        self.assertEqual(days.top_hidden(graph, known, path) == 0, always)

    def test_sure_and_top_against_all_lots(self):
        for graph, known in ALL:
            if len(known) < 4:
                lots = [oracle.all_lots(graph, numbers) for numbers in known]
                for path in some_paths(graph, 3, 8):
                    self.check_lots(graph, known, path, [oracle_bounds.numbers_gone(some, path) for some in lots])

    def check_lots(self, graph, known, path, gone):
        """gone tells, day by day, how often LOTS go the PATH."""
        by_sum = {}
        for numbers in itertools.product(*gone):
            by_sum.setdefault(sum(numbers), []).append(numbers)
        self.assertEqual((days.sure_by_days(graph, known, path), days.top_by_days(graph, known, path)),
                         (min(by_sum), max(by_sum)))
        for number in range(-1, max(by_sum) + 2):
            ways = by_sum.get(number, [])
            many = [len([part for part in way if part > 0]) for way in ways]
            self.assertEqual(days.fewest_days(graph, known, path, number), min(many, default=None))
            self.assertEqual(days.most_days(graph, known, path, number), max(many, default=None))
            for day in range(len(known)):
                column = [way[day] for way in ways]
                expected = (min(column), max(column)) if ways else None
                self.assertEqual(days.day_range(graph, known, path, number, day), expected)


class OfOneNumber(unittest.TestCase):
    def test_great_ones(self):
        for graph, known in GREATS:
            for path in some_paths(graph, 4, 4):
                least, top = days.sure_by_days(graph, known, path), days.top_by_days(graph, known, path)
                for number in {least, least + 1, (least + top) // 2, top - 1, top}:
                    if least <= number <= top:
                        self.check(graph, known, path, number)
                for number in (least - 1, top + 1, -1, -GREAT, 10 ** 40):
                    self.assertIsNone(days.day_range(graph, known, path, number, 7))
                    self.assertIsNone(days.fewest_days(graph, known, path, number))
                    self.assertIsNone(days.most_days(graph, known, path, number))

    def check(self, graph, known, path, number):
        pairs = [(oracle_bounds.sure(graph, numbers, path),
                  min(oracle.sum_of(graph, numbers, (edge,)) for edge in oracle.edges_on(path))) for numbers in known]
        for day, (low, high) in enumerate(pairs):
            others = pairs[:day] + pairs[day + 1:]
            least, most = days.day_range(graph, known, path, number, day)
            self.assertTrue(low <= least <= most <= high)
            # Just these numbers leave what the other days can have together.
            for worth, fits in ((least, True), (most, True), (least - 1, False), (most + 1, False)):
                rest = sum(pair[0] for pair in others) <= number - worth <= sum(pair[1] for pair in others)
                self.assertEqual(low <= worth <= high and rest, fits)
        many = [sum(marks) for marks in itertools.product((0, 1), repeat=len(pairs))
                if self.may_be(pairs, marks, number)]
        self.assertEqual(days.fewest_days(graph, known, path, number), min(many))
        self.assertEqual(days.most_days(graph, known, path, number), max(many))

    def may_be(self, pairs, marks, number):
        """Whether it may have been gone so often just on the marked days."""
        bounds = [(max(1, low), high) if mark else (low, 0) for mark, (low, high) in zip(marks, pairs)]
        if any(low > high for low, high in bounds):
            return False
        return sum(low for low, _ in bounds) <= number <= sum(high for _, high in bounds)

    def test_no_day_comes_first(self):
        for day in (-1, 3, -3, GREAT, -GREAT):
            for number in (8, 2, 11, 12, -1):
                with self.assertRaises(NoDay) as caught:
                    days.day_range(FORK, DAYS, PATH, number, day)
                self.assertEqual(vars(caught.exception), {"day": day})
        self.assertIsNone(days.day_range(FORK, DAYS, PATH, 2, 2))


class Cuts(unittest.TestCase):
    def worlds(self):
        for seed, (graph, known) in enumerate(ALL + GREATS):
            for many in (0, 1, 2, 4):
                paths = tuple(some_paths(graph, (seed, many).__repr__(), many))
                yield graph, known, paths + paths[:1] if seed & 1 and many < 4 else paths
        # Days that turn about, so that much is lost in their sums.
        turned = (1, 9, 2, 8, 2, 8, 1, 9)
        for known in ((GOOD, turned) * 4, (turned, turned, GOOD, GOOD) * 2, (GOOD, GOOD, turned, DAYS[2]) * 2):
            for paths in ((PATH,), (PATH, REST), (REST, PATH, ("a", "m", "d")), (PATH, PATH, REST, ("s", "a"))):
                yield FORK, known, paths

    def test_against_all_sets_of_cuts(self):
        for graph, known, paths in self.worlds():
            sets = oracle.subsets(range(1, len(known)))
            worths = {cuts: oracle_bounds.kept(graph, known, paths, cuts) for cuts in sets}
            for cuts in sets[::3]:
                self.assertEqual(days.kept_by(graph, known, paths, cuts), worths[cuts])
            whole = worths[tuple(range(1, len(known)))]
            fewest = min(len(cuts) for cuts in sets if worths[cuts] == whole)
            self.assertEqual(days.fewest_cuts(graph, known, paths), fewest)
            self.assertEqual(fewest, self.pairs_behind(graph, known, paths))
            for most in (0, 1, 2, fewest, 7, GREAT):
                allowed = [cuts for cuts in sets if len(cuts) <= most]
                best = min(allowed, key=lambda cuts: (-worths[cuts], len(cuts), cuts))
                self.assertEqual(days.best_cuts(graph, known, paths, most), best)

    def pairs_behind(self, graph, known, paths):
        """How many pairs of days there are at the most, each behind the one ahead, by which a sum would lose."""
        rows = [[oracle.surplus(graph, numbers, path) for numbers in known] for path in paths]
        pairs = [(one, other) for one, other in itertools.combinations(range(len(known)), 2)
                 if any(min(row[one], row[other]) < 0 < max(row[one], row[other]) for row in rows)]
        best = [0] * (len(known) + 1)
        for first in reversed(range(len(known))):
            best[first] = max([best[first + 1]] + [1 + best[other] for one, other in pairs if one == first])
        return best[0]

    def test_no_day(self):
        for cuts, first in (((0, 1), 0), ((3,), 3), ((1, 2, 3, 4), 3), ((-GREAT, 1), -GREAT), ((-1, 0), -1),
                            ((2, GREAT), GREAT)):
            for paths in ((PATH,), ()):
                for form in (cuts, list(cuts)):
                    with self.assertRaises(NoDay) as caught:
                        days.kept_by(FORK, DAYS, paths, form)
                    self.assertEqual(vars(caught.exception), {"day": first})
        self.assertRaises(NoDay, days.kept_by, FORK, (GOOD,), (), (1,))
        self.assertEqual(days.kept_by(FORK, (GOOD,), (PATH, PATH), ()), 6)

    def test_one_day_and_no_paths(self):
        self.assertEqual(days.fewest_cuts(FORK, (GOOD,), (PATH,)), 0)
        self.assertEqual(days.best_cuts(FORK, (GOOD,), (PATH,), 9), ())
        self.assertEqual(days.best_cuts(FORK, DAYS, (), 2), ())


class Splits(unittest.TestCase):
    def test_day_split(self):
        for seed, (graph, known) in enumerate(ALL + GREATS):
            numbers = known[0]
            for path in some_paths(graph, seed, 6):
                least = oracle_bounds.sure(graph, numbers, path)
                top = min(oracle.sum_of(graph, numbers, (edge,)) for edge in oracle.edges_on(path))
                for number in (least - 1, least, least + 1, (least + top) // 2, top, top + 1, -1, GREAT * 9):
                    pair = days.day_split(graph, numbers, path, number)
                    if least <= number <= top:
                        self.assertTrue(self.is_split(graph, numbers, path, number, pair))
                        self.assertIs(days.is_day_split(graph, numbers, path, number, pair), True)
                        self.assertIs(days.is_day_split(graph, numbers, path, number + 1, pair), False)
                        self.assertIs(days.is_day_split(graph, numbers, path, number, list(pair)), False)
                    else:
                        self.assertIsNone(pair)

    def is_split(self, graph, numbers, path, number, thing):
        if type(thing) is not tuple or len(thing) != 2 or not all(oracle.is_counts(graph, part) for part in thing):
            return False
        if oracle_bounds.sums(thing) != numbers:
            return False
        return sum(oracle_bounds.sure(graph, part, path) for part in thing) == number

    def test_all_splits(self):
        for graph, numbers in ((SKIP, (2, 3, 3)), (FORK, (2, 1, 2, 1, 2, 1, 2, 1)), (SMALL[-1], None)):
            numbers = numbers or oracle.some_counts(graph, 5, 2, 3)
            parts = [part for part in itertools.product(*[range(number + 1) for number in numbers])
                     if oracle.is_counts(graph, part)]
            for path in oracle.all_paths(graph):
                found = set()
                for part in parts:
                    pair = (part, tuple(number - own for number, own in zip(numbers, part)))
                    number = sum(oracle_bounds.sure(graph, numbers, path) for numbers in pair)
                    found.add(number)
                    self.assertIs(days.is_day_split(graph, numbers, path, number, pair), True)
                    self.assertIs(days.is_day_split(graph, numbers, path, number - 1, pair), False)
                lots = oracle_bounds.numbers_gone(oracle.all_lots(graph, numbers), path)
                self.assertEqual(sorted(found), lots)

    def test_things_of_all_kinds(self):
        pair = ((4, 0, 4, 0, 4, 0, 4, 0), (3, 3, 2, 4, 2, 4, 3, 3))
        apart = [(pair[0], (0,) * 8), ((0,) * 8, pair[0]), (pair[0], (0, 1, 0, 1, 0, 1, 0, 1))]
        for thing in [pair, pair[::-1], (GOOD,), pair + ((0,) * 8,)] + apart + oracle.twisted(pair) + list(oracle.ODD_THINGS):
            expected = self.is_split(FORK, GOOD, PATH, 4, thing)
            self.assertIs(days.is_day_split(FORK, GOOD, PATH, 4, thing), expected, thing)


if __name__ == "__main__":
    unittest.main()
