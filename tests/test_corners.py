"""Promise [14], and [1] (e): each function of corners.py, compared with all LOTS that have the COUNTS."""

import itertools
import math
import random
import unittest

from runsbehind import corners

from tests import oracle, oracle_bounds
from tests.oracle import DEEP, FORK, GRAPHS, LADDER, ONE_EDGE, SKIP, STAIRS, TWOFOLD
from tests.test_counts import SMALL

GREAT = 10 ** 30
SEVEN = (7, 3, 6, 4, 6, 4, 7, 3)
PASSED = (6, 4, 7, 3, 5, 5, 7, 3, 5, 5, 6, 4)
TURNS = (5, 1, 2, 2, 4, 3, 1, 2, 7, 3, 5, 5, 6, 4)
LONG = ("a", "m", "c", "n", "e")


def worlds():
    """GRAPHS with COUNTS, and all LOTS that have these."""
    for graph in SMALL[-12:] + [SKIP, ONE_EDGE, FORK, DEEP]:
        table = oracle.lots_up_to(graph, 4)
        for numbers in sorted(table)[::5]:
            yield graph, numbers, table[numbers]
    for graph in list(oracle.small_graphs(5))[::30] + [TWOFOLD]:
        table = oracle.lots_up_to(graph, 3)
        for numbers in sorted(table, key=lambda key: (-len(table[key]), key))[:6]:
            yield graph, numbers, table[numbers]
    for graph, seed in ((TWOFOLD, 1), (TWOFOLD, 2), (LADDER, 3), (STAIRS, 4), (FORK, 5)):
        numbers = oracle.some_counts(graph, seed, 2, 3)
        yield graph, numbers, oracle.all_lots(graph, numbers)


ALL = list(worlds())


def great_worlds():
    for seed, graph in enumerate(list(GRAPHS) + oracle.some_graphs("corners", 12)):
        for most, many in ((3, 4), (GREAT // 60, 60), (GREAT, 9)):
            lot = oracle.some_lot(graph, seed, most, many)
            yield graph, oracle.counts_of(graph, lot), lot


GREATS = list(great_worlds())


def long_paths(graph):
    return [path for path in oracle.all_paths(graph) if len(path) > 2]


def some_known(graph, lots, seed):
    """Some pairs (corner, number), as one of the LOTS tells them, and some that maybe none does."""
    chance = random.Random(seed)
    names = oracle_bounds.all_corners(graph)
    told = dict(zip(names, oracle_bounds.corners_of(graph, chance.choice(lots))))
    chosen = sorted(chance.sample(names, min(len(names), chance.randint(0, 3))))
    more = chance.choice((0, 0, 1))
    return tuple((corner, told[corner] + (more if at == 0 else 0)) for at, corner in enumerate(chosen))


class Forms(unittest.TestCase):
    def test_corners_in(self):
        for graph in list(GRAPHS) + SMALL + oracle.some_graphs("forms", 20):
            self.assertEqual(corners.corners_in(graph), tuple(oracle_bounds.all_corners(graph)))

    def test_corners_of(self):
        for graph, _, lot in GREATS:
            self.assertEqual(corners.corners_of(graph, lot), oracle_bounds.corners_of(graph, lot))
            self.assertEqual(corners.corners_of(graph, ()), (0,) * len(oracle_bounds.all_corners(graph)))

    def test_is_corners(self):
        for graph, numbers, lots in ALL[::2]:
            tables = oracle_bounds.by_corners(graph, lots)
            for known in tables:
                self.assertIs(corners.is_corners(graph, numbers, known), True)
                for at in range(len(known)):
                    for other in (known[:at] + (known[at] + 1,) + known[at + 1:], known[:at] + known[at + 1:]):
                        self.assertIs(corners.is_corners(graph, numbers, other), other in tables)

    def test_sums_of_one_side_alone_are_not_enough(self):
        for known, expected in (((5, 2, 1, 2), True), ((5, 3, 1, 1), False), ((5, 2, 2, 1), False), ((6, 2, 0, 2), False),
                                ((8, -1, -2, 5), False), ((7, 0, -1, 4), False), ((2, 5, 4, -1), False)):
            self.assertIs(corners.is_corners(FORK, SEVEN, known + (6, 4, 7, 3)), expected)
        for rest in ((6, 4, 7, 4), (5, 4, 7, 3), (7, 3, 7, 3), (6, 4, 3, 7)):
            self.assertIs(corners.is_corners(FORK, SEVEN, (5, 2, 1, 2) + rest), False)

    def test_is_corners_of_things_of_all_kinds(self):
        for graph, numbers, known in ((FORK, SEVEN, (5, 2, 1, 2, 6, 4, 7, 3)), (SKIP, (2, 1, 1), (1,)),
                                      (ONE_EDGE, (5,), ()), (FORK, (0,) * 8, (0,) * 8)):
            self.assertIs(corners.is_corners(graph, numbers, known), True)
            for thing in oracle.twisted(known) + list(oracle.ODD_THINGS):
                expected = oracle_bounds.is_corners(graph, numbers, thing)
                self.assertIs(corners.is_corners(graph, numbers, thing), expected, thing)


class All(unittest.TestCase):
    def test_all_corners_of_counts(self):
        for graph, numbers, lots in ALL:
            tables = sorted(oracle_bounds.by_corners(graph, lots))
            self.assertEqual(corners.least_corners(graph, numbers), tables[0])
            self.assertEqual(corners.greatest_corners(graph, numbers), tables[-1])
            self.assertEqual(corners.how_many_corners(graph, numbers), len(tables))

    def test_all_small_tuples(self):
        for graph, numbers in ((FORK, (2, 1, 2, 1, 2, 1, 2, 1)), (SKIP, (2, 1, 1)), (SMALL[-1], None), (DEEP, None)):
            numbers = numbers or oracle.some_counts(graph, 3, 1, 2)
            fitting = [some for some in itertools.product(range(3), repeat=len(oracle_bounds.all_corners(graph)))
                       if oracle_bounds.is_corners(graph, numbers, some)]
            self.assertEqual(fitting, sorted(oracle_bounds.by_corners(graph, oracle.all_lots(graph, numbers))))
            for some in list(itertools.product(range(3), repeat=len(fitting[0])))[::17] + fitting:
                self.assertIs(corners.is_corners(graph, numbers, some), some in fitting)
            self.assertEqual(corners.how_many_corners(graph, numbers), len(fitting))
            self.assertEqual(corners.least_corners(graph, numbers), fitting[0])
            self.assertEqual(corners.greatest_corners(graph, numbers), fitting[-1])

    def test_great_ones_are_corners(self):
        for graph, numbers, lot in GREATS:
            least, greatest = corners.least_corners(graph, numbers), corners.greatest_corners(graph, numbers)
            for known in (least, greatest, oracle_bounds.corners_of(graph, lot)):
                self.assertTrue(oracle_bounds.is_corners(graph, numbers, known))
                self.assertTrue(least <= known <= greatest)
                self.assertIs(corners.is_corners(graph, numbers, known), True)
            self.check_first_free(graph, numbers, least, -1)
            self.check_first_free(graph, numbers, greatest, 1)

    def check_first_free(self, graph, numbers, known, more):
        """No other CORNERS are alike up to some place and less, or more, there: as corner_span tells."""
        names = oracle_bounds.all_corners(graph)
        for at in range(0, len(names), 3):
            span = corners.corner_span(graph, numbers, tuple(zip(names[:at], known[:at])), names[at])
            self.assertEqual(span[0] if more < 0 else span[1], known[at])

    def test_how_many_of_great_tables(self):
        # Four to one block, five from it: as many tables as there are with these sums.
        edges = [("s", "a"), ("s", "b"), ("s", "c"), ("s", "v"), ("a", "v"), ("b", "v"), ("c", "v")]
        edges += [("v", name) for name in "defgt"] + [(name, "t") for name in "defg"]
        wide = tuple(sorted(edges))
        self.assertEqual((len(wide), len(oracle.names_of(wide))), (16, 10))
        for rows, columns in (((12, 12, 12, 12), (12, 12, 12, 12, 0)), ((1, 1, 1, 1), (1, 1, 1, 1, 0)),
                              ((12, 11, 10, 12), (9, 9, 9, 9, 9)), ((0, 0, 0, 0), (0,) * 5), ((3, 2, 1, 0), (2, 1, 1, 1, 1))):
            worth = dict(zip(("a", "b", "c", "s"), rows))
            onward = dict(zip(("d", "e", "f", "g", "t"), columns))
            numbers = tuple(worth.get(edge[0], onward.get(edge[1])) if edge[1] == "v" else
                            onward[edge[1]] if edge[0] == "v" else worth.get(edge[1], onward.get(edge[0]))
                            for edge in wide)
            self.assertTrue(oracle.is_counts(wide, numbers))
            self.assertEqual(corners.how_many_corners(wide, numbers), self.tables(rows, columns))
        self.assertEqual(self.tables((1, 1, 1, 1), (1, 1, 1, 1, 0)), math.factorial(4))

    def tables(self, rows, columns):
        """How many tables there are, column by column, the rows in their order."""
        left = {tuple(rows): 1}
        for column in columns:
            more = {}
            for lacking, ways in left.items():
                for parts in itertools.product(*[range(min(lack, column) + 1) for lack in lacking[:-1]]):
                    rest = column - sum(parts)
                    if 0 <= rest <= lacking[-1]:
                        key = tuple(lack - part for lack, part in zip(lacking, parts + (rest,)))
                        more[key] = more.get(key, 0) + ways
            left = more
        return left.get((0,) * len(rows), 0)

    def test_one_edge_and_zero(self):
        self.assertEqual(corners.corners_in(ONE_EDGE), ())
        self.assertEqual(corners.least_corners(ONE_EDGE, (GREAT,)), ())
        self.assertEqual(corners.how_many_corners(ONE_EDGE, (12,)), 1)
        self.assertIs(corners.single_with(ONE_EDGE, (GREAT,), ()), True)
        for graph in GRAPHS:
            zero, none = (0,) * len(graph), (0,) * len(oracle_bounds.all_corners(graph))
            self.assertEqual(corners.least_corners(graph, zero), none)
            self.assertEqual(corners.greatest_corners(graph, zero), none)
            self.assertEqual(corners.how_many_corners(graph, zero), 1)
            self.assertIs(corners.single_with(graph, zero, none), True)
            for path in long_paths(graph)[::9]:
                self.assertEqual(corners.path_span(graph, zero, (), path), (0, 0))
                self.assertEqual(corners.lot_with(graph, zero, none, path, 0), ())


class With(unittest.TestCase):
    def test_lots_that_have_both(self):
        for graph, numbers, lots in ALL:
            for known, some in sorted(oracle_bounds.by_corners(graph, lots).items())[::3]:
                self.assertIs(corners.single_with(graph, numbers, known), len(some) == 1)
                for path in long_paths(graph)[::3]:
                    self.check(graph, numbers, known, path, some)

    def check(self, graph, numbers, known, path, some):
        gone = oracle_bounds.numbers_gone(some, path)
        self.assertEqual(corners.least_with(graph, numbers, known, path), gone[0])
        self.assertEqual(corners.greatest_with(graph, numbers, known, path), gone[-1])
        self.assertEqual(gone, list(range(gone[0], gone[-1] + 1)))
        for times in range(-1, gone[-1] + 2):
            lot = corners.lot_with(graph, numbers, known, path, times)
            if times in gone:
                self.assertIn(lot, some)
                self.assertEqual(oracle.goes(lot, path), times)
            else:
                self.assertIsNone(lot)
            for other in some[::5]:
                expected = oracle.goes(other, path) == times
                self.assertIs(corners.is_lot_with(graph, numbers, known, path, times, other), expected)

    def test_several_are_not_single(self):
        marks = [corners.single_with(graph, numbers, known) for graph, numbers, lots in ALL
                 for known in oracle_bounds.by_corners(graph, lots)]
        self.assertGreater(marks.count(False), 5)

    def test_great_ones(self):
        for seed, (graph, numbers, lot) in enumerate(GREATS):
            known = oracle_bounds.corners_of(graph, lot)
            chance = random.Random(seed)
            for path in chance.sample(long_paths(graph), min(6, len(long_paths(graph)))):
                many = dict(zip(oracle_bounds.all_corners(graph), known))
                turns = [many[path[at:at + 3]] for at in range(len(path) - 2)]
                inner = oracle.sum_of(graph, numbers, oracle.edges_on(path)[1:-1])
                least, greatest = max(0, sum(turns) - inner), min(turns)
                self.assertEqual(corners.least_with(graph, numbers, known, path), least)
                self.assertEqual(corners.greatest_with(graph, numbers, known, path), greatest)
                for times in (least - 1, least, (least + greatest) // 2, greatest, greatest + 1, -GREAT):
                    self.check_lot(graph, numbers, known, path, times, least <= times <= greatest)

    def check_lot(self, graph, numbers, known, path, times, expected):
        lot = corners.lot_with(graph, numbers, known, path, times)
        if not expected:
            self.assertIsNone(lot)
            return
        self.assertTrue(oracle.is_lot(graph, lot))
        self.assertEqual(oracle.counts_of(graph, lot), numbers)
        self.assertEqual(oracle_bounds.corners_of(graph, lot), known)
        self.assertEqual(oracle.goes(lot, path), times)
        self.assertIs(corners.is_lot_with(graph, numbers, known, path, times, lot), True)
        self.assertIs(corners.is_lot_with(graph, numbers, known, path, times - 1, lot), False)

    def test_is_lot_with_of_things_of_all_kinds(self):
        lot = corners.lot_with(TWOFOLD, PASSED, TURNS, LONG, 3)
        for thing in [lot] + oracle.twisted(lot)[::7] + list(oracle.ODD_THINGS):
            expected = (oracle.is_lot(TWOFOLD, thing) and oracle.counts_of(TWOFOLD, thing) == PASSED
                        and oracle_bounds.corners_of(TWOFOLD, thing) == TURNS and oracle.goes(thing, LONG) == 3)
            self.assertIs(corners.is_lot_with(TWOFOLD, PASSED, TURNS, LONG, 3, thing), expected, thing)
        # LOTS that go the PATH so often, but not all corners.
        lots = oracle.all_lots(TWOFOLD, (2, 1, 2, 1, 2, 1, 2, 1, 2, 1, 2, 1))
        numbers, known = oracle.counts_of(TWOFOLD, lots[0]), oracle_bounds.corners_of(TWOFOLD, lots[0])
        others = 0
        for path in (LONG, ("a", "m", "c"), ("s", "b", "m", "d")):
            for lot in lots:
                alike = oracle_bounds.corners_of(TWOFOLD, lot) == known
                times = oracle.goes(lot, path)
                others += not alike
                self.assertIs(corners.is_lot_with(TWOFOLD, numbers, known, path, times, lot), alike)
        self.assertGreater(others, 3)
        for lot in oracle.all_lots(FORK, (2, 1, 2, 1, 2, 1, 2, 1)):
            for known in ((1, 1, 1, 0, 2, 1, 2, 1), (2, 0, 0, 1, 2, 1, 2, 1)):
                expected = oracle_bounds.corners_of(FORK, lot) == known
                found = corners.is_lot_with(FORK, (2, 1, 2, 1, 2, 1, 2, 1), known, ("a", "m", "c"), known[0], lot)
                self.assertIs(found, expected)


class Spans(unittest.TestCase):
    def test_spans_against_all_lots(self):
        both = set()
        for seed, (graph, numbers, lots) in enumerate(ALL):
            for turn in range(3):
                known = some_known(graph, lots, (seed, turn).__repr__())
                some = [lot for lot in lots if all(oracle.goes(lot, corner) == number for corner, number in known)]
                both.add(some == [])
                for corner in oracle_bounds.all_corners(graph)[::2]:
                    self.check(corners.corner_span(graph, numbers, known, corner), some, corner)
                for path in long_paths(graph)[turn::4]:
                    self.check(corners.path_span(graph, numbers, known, path), some, path)
        self.assertEqual(len(both), 2)

    def check(self, span, some, path):
        gone = oracle_bounds.numbers_gone(some, path)
        self.assertEqual(span, (gone[0], gone[-1]) if gone else None)
        self.assertEqual(gone, list(range(gone[0], gone[-1] + 1)) if gone else [])

    def test_widths(self):
        for graph, numbers, lots in ALL:
            for path in long_paths(graph)[::3]:
                turns = [path[at:at + 3] for at in range(len(path) - 2)]
                widths = []
                for corner in turns:
                    groups = {}
                    for lot in lots:
                        groups.setdefault(oracle.goes(lot, corner), []).append(oracle.goes(lot, path))
                    widths.append(max(max(group) - min(group) for group in groups.values()))
                self.assertEqual(corners.widths_left(graph, numbers, path), tuple(widths))
                expected = turns[widths.index(min(widths))]
                self.assertEqual(corners.best_corner(graph, numbers, path), expected)

    def test_great_ones(self):
        for seed, (graph, numbers, lot) in enumerate(GREATS):
            chance = random.Random(seed)
            names = oracle_bounds.all_corners(graph)
            told = dict(zip(names, oracle_bounds.corners_of(graph, lot)))
            for path in chance.sample(long_paths(graph), min(4, len(long_paths(graph)))):
                known = tuple((corner, told[corner]) for corner in sorted(chance.sample(names, len(names) // 3)))
                span = corners.path_span(graph, numbers, known, path)
                self.assertTrue(span[0] <= oracle.goes(lot, path) <= span[1])
                corner = chance.choice(names)
                span = corners.corner_span(graph, numbers, known, corner)
                rest = tuple(pair for pair in known if pair[0] != corner)
                for number, fits in ((span[0], True), (span[1], True), (span[0] - 1, False), (span[1] + 1, False)):
                    if number >= 0 and corner not in dict(known):
                        more = tuple(sorted(rest + ((corner, number),)))
                        expected = (number, number) if fits else None
                        self.assertEqual(corners.corner_span(graph, numbers, more, corner), expected)

    def test_width_of_great_ones_by_halves(self):
        for seed, (graph, numbers, lot) in enumerate(GREATS):
            chance = random.Random(seed)
            for path in chance.sample(long_paths(graph), min(3, len(long_paths(graph)))):
                widths = corners.widths_left(graph, numbers, path)
                turns = [path[at:at + 3] for at in range(len(path) - 2)]
                self.assertEqual(corners.best_corner(graph, numbers, path), turns[widths.index(min(widths))])
                for corner, width in zip(turns, widths):
                    self.assertEqual(width, self.greatest_width(graph, numbers, path, corner))

    def greatest_width(self, graph, numbers, path, corner):
        """The greatest width for any number of the corner, sought where it stops growing."""
        low, high = corners.corner_span(graph, numbers, (), corner)

        def width(number):
            span = corners.path_span(graph, numbers, ((corner, number),), path)
            return span[1] - span[0]
        while high - low > 2:
            middle = (low + high) // 2
            if width(middle) < width(middle + 1):
                low = middle + 1
            elif width(middle) > width(middle + 1):
                high = middle
            else:
                # Where it is even it is greatest: it grows, then stays, then falls.
                return width(middle)
        return max(width(number) for number in range(low, high + 1))

    def test_known_numbers_that_cannot_be(self):
        for known in (((("a", "m", "c"), 8),), ((("s", "a", "m"), 6),), ((("m", "c", "t"), GREAT),)):
            self.assertIsNone(corners.corner_span(FORK, SEVEN, known, ("b", "m", "d")))
            self.assertIsNone(corners.path_span(FORK, SEVEN, known, ("b", "m", "d")))
        everything = tuple(zip(oracle_bounds.all_corners(FORK), (5, 2, 1, 2, 6, 4, 7, 3)))
        self.assertEqual(corners.path_span(FORK, SEVEN, everything, ("s", "a", "m", "c", "t")), (5, 5))
        self.assertEqual(corners.corner_span(FORK, SEVEN, everything, ("s", "b", "m")), (3, 3))


if __name__ == "__main__":
    unittest.main()
