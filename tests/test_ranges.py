"""Promise [11], and [1] (d): each function of ranges.py, compared with all COUNTS within small RANGES and their LOTS."""

import itertools
import random
import unittest

from runsbehind import ranges
from runsbehind.errors import NoBlock, NoCounts

from tests import oracle, oracle_bounds
from tests.oracle import DEEP, FORK, GRAPHS, LADDER, ONE_EDGE, SKIP, STAIRS, TWOFOLD
from tests.test_counts import SMALL

GREAT = 10 ** 30
NEAR = ((7, 9), (0, 2), (6, 6), (4, 4), (6, 6), (4, 4), (0, 10), (0, 10))
RAISE = (ranges.sharp_ranges, ranges.is_sharp, ranges.loose_edges, ranges.total_range)


def worlds():
    """Small GRAPHS with small RANGES, and all COUNTS within these."""
    for seed, graph in enumerate(SMALL + [SKIP, ONE_EDGE] + list(oracle.small_graphs(5))[::25]):
        for known in oracle_bounds.some_ranges(graph, seed, 3 if len(graph) < 5 else 2, 8):
            yield graph, known, oracle_bounds.all_within(graph, known)
    for seed, graph in enumerate([FORK, FORK, DEEP]):
        for known in oracle_bounds.some_ranges(graph, seed + 100, 2, 5)[3:]:
            yield graph, known, oracle_bounds.all_within(graph, known)


ALL = list(worlds())
FITTING = [world for world in ALL if world[2]]
TIGHT = [world for world in ALL if not world[2]]


def great_worlds():
    """Great GRAPHS, and great numbers, of which some have COUNTS within."""
    for seed, graph in enumerate([LADDER, STAIRS, TWOFOLD, FORK, ONE_EDGE] + oracle.some_graphs("ranges", 12)):
        for known in oracle_bounds.some_ranges(graph, seed, GREAT // 40, 6) + oracle_bounds.some_ranges(graph, seed, 7, 6):
            yield graph, known


GREATS = list(great_worlds())


class Forms(unittest.TestCase):
    def test_worlds_are_of_both_kinds(self):
        self.assertGreater(len(FITTING), 60)
        self.assertGreater(len(TIGHT), 40)

    def test_is_ranges(self):
        for graph, known in ((SKIP, ((0, 1), (2, 2), (0, GREAT))), (ONE_EDGE, ((3, 4),)), (SKIP, ((0, 0),) * 3)):
            for thing in [known] + oracle.twisted(known) + list(oracle.ODD_THINGS):
                self.assertIs(ranges.is_ranges(graph, thing), oracle_bounds.is_ranges(graph, thing), thing)

    def test_is_ranges_of_small_pairs(self):
        for pair in itertools.product((-1, 0, 1, 2, True, None, "1"), repeat=2):
            self.assertIs(ranges.is_ranges(ONE_EDGE, (pair,)), oracle_bounds.is_ranges(ONE_EDGE, (pair,)), pair)

    def test_is_within(self):
        for graph, known, found in ALL[::3]:
            if len(graph) < 6:
                for thing in itertools.product(range(4), repeat=len(graph)):
                    self.assertIs(ranges.is_within(graph, known, thing), thing in found)

    def test_is_within_of_things_of_all_kinds(self):
        for graph, known, numbers in ((SKIP, ((0, 2), (1, 1), (0, 5)), (2, 1, 1)), (ONE_EDGE, ((0, 1),), (1,)),
                                      (FORK, NEAR, (8, 2, 6, 4, 6, 4, 8, 2))):
            self.assertIs(ranges.is_within(graph, known, numbers), True)
            for thing in oracle.twisted(numbers) + list(oracle.ODD_THINGS):
                expected = oracle_bounds.is_within(graph, known, thing)
                self.assertIs(ranges.is_within(graph, known, thing), expected, thing)


class Fit(unittest.TestCase):
    def test_counts_within_and_bars(self):
        for graph, known, found in ALL:
            bars = [side for side in oracle_bounds.all_sides(graph) if oracle_bounds.is_bar(graph, known, side)]
            self.assertEqual(bars == [], found != [])
            self.assertIs(ranges.can_fit(graph, known), found != [])
            if found:
                self.assertIn(ranges.counts_within(graph, known), found)
                self.assertIsNone(ranges.range_bar(graph, known))
            else:
                self.assertIsNone(ranges.counts_within(graph, known))
                self.assertIn(ranges.range_bar(graph, known), bars)

    def test_is_range_bar(self):
        for graph, known, _ in ALL[::2]:
            for side in oracle_bounds.all_sides(graph):
                expected = oracle_bounds.is_bar(graph, known, side)
                self.assertIs(ranges.is_range_bar(graph, known, side), expected)
                self.assertIs(ranges.is_range_bar(graph, known, list(side)), False)

    def test_is_range_bar_of_things_of_all_kinds(self):
        tight = NEAR[:2] + ((0, 2), (0, 4), (0, 6), (0, 4)) + NEAR[6:]
        bar = (("c", "m"), "in")
        self.assertIs(ranges.is_range_bar(FORK, tight, bar), True)
        for thing in oracle.twisted(bar) + list(oracle.ODD_THINGS) + [((), "in"), (("s",), "out"), (("m", "t"), "in")]:
            self.assertIs(ranges.is_range_bar(FORK, tight, thing), oracle_bounds.is_bar(FORK, tight, thing), thing)
        # Leading out, and with other words in the place of the one.
        full = ((0, 1),) * 2 + ((4, 9),) * 2 + ((0, 9),) * 4
        self.assertIs(ranges.is_range_bar(FORK, full, (("c", "d", "m"), "out")), True)
        for word in ("", "on", "outin", "OUT", None, True, 1, ("out",), ["out"]):
            self.assertIs(ranges.is_range_bar(FORK, full, (("c", "d", "m"), word)), False)
        for thing in oracle.ODD_THINGS:
            for other in ((thing, "in"), (("c", "m"), thing), ((thing,), "out")):
                self.assertIs(ranges.is_range_bar(FORK, tight, other), oracle_bounds.is_bar(FORK, tight, other), other)

    def test_great_ones_show_it(self):
        both = set()
        for graph, known in GREATS:
            found, bar = ranges.counts_within(graph, known), ranges.range_bar(graph, known)
            both.add(found is None)
            if found is None:
                self.assertTrue(oracle_bounds.is_bar(graph, known, bar))
                self.assertIs(ranges.is_range_bar(graph, known, bar), True)
            else:
                self.assertTrue(oracle_bounds.is_within(graph, known, found))
                self.assertIsNone(bar)
        self.assertEqual(len(both), 2)

    def test_one_edge(self):
        self.assertEqual(ranges.counts_within(ONE_EDGE, ((GREAT, GREAT),)), (GREAT,))
        self.assertIsNone(ranges.range_bar(ONE_EDGE, ((1, 2),)))
        self.assertEqual(ranges.sharp_ranges(ONE_EDGE, ((1, GREAT),)), ((1, GREAT),))
        self.assertEqual(ranges.total_range(ONE_EDGE, ((1, GREAT),)), (1, GREAT))
        self.assertEqual(ranges.path_range(ONE_EDGE, ((1, GREAT),), ONE_EDGE[0]), (1, GREAT))


class Sharp(unittest.TestCase):
    def test_sharp_ranges(self):
        for graph, known, found in FITTING:
            columns = list(zip(*found))
            expected = tuple((min(column), max(column)) for column in columns)
            self.assertEqual(ranges.sharp_ranges(graph, known), expected)
            for column, (low, high) in zip(columns, expected):
                self.assertEqual(set(column), set(range(low, high + 1)))
            self.assertIs(ranges.is_sharp(graph, known), expected == known)
            self.assertIs(ranges.is_sharp(graph, expected), True)
            self.assertIs(ranges.is_sharp(graph, oracle.as_lists(expected)), True)
            loose = tuple(edge for edge, (low, high) in zip(graph, expected) if low != high)
            self.assertEqual(ranges.loose_edges(graph, known), loose)

    def test_totals_and_throughs(self):
        for graph, known, found in FITTING:
            totals = [oracle.flows_out(graph, numbers, oracle.entry_of(graph)) for numbers in found]
            self.assertEqual(ranges.total_range(graph, known), (min(totals), max(totals)))
            for name in oracle.names_of(graph):
                passed = [max(oracle.flows_out(graph, numbers, name), oracle.flows_in(graph, numbers, name))
                          for numbers in found]
                self.assertEqual(ranges.through_range(graph, known, name), (min(passed), max(passed)))

    def test_great_ones(self):
        for graph, known in GREATS:
            if ranges.can_fit(graph, known):
                sharp = ranges.sharp_ranges(graph, known)
                for at, (low, high) in enumerate(sharp):
                    self.assertTrue(known[at][0] <= low <= high <= known[at][1])
                    for number in (low, high, (low + high) // 2):
                        self.check(graph, known, at, (number, number), True)
                    if known[at][0] < low:
                        self.check(graph, known, at, (known[at][0], low - 1), False)
                    if high < known[at][1]:
                        self.check(graph, known, at, (high + 1, known[at][1]), False)

    def check(self, graph, known, at, pair, fits):
        narrow = known[:at] + (pair,) + known[at + 1:]
        if fits:
            self.assertTrue(oracle_bounds.is_within(graph, narrow, ranges.counts_within(graph, narrow)))
        else:
            self.assertTrue(oracle_bounds.is_bar(graph, narrow, ranges.range_bar(graph, narrow)))

    def test_sums_above_the_bounds(self):
        names = "bcdefghi"
        wide = tuple(sorted([("a", name) for name in names] + [(name, "z") for name in names]))
        known = ((GREAT - 1, GREAT),) * 16
        self.assertEqual(ranges.total_range(wide, known), (8 * GREAT - 8, 8 * GREAT))
        self.assertEqual(ranges.through_range(wide, known, "z"), (8 * GREAT - 8, 8 * GREAT))
        self.assertEqual(ranges.through_range(wide, known, "e"), (GREAT - 1, GREAT))
        self.assertIs(ranges.is_sharp(wide, known), True)


class Paths(unittest.TestCase):
    def test_path_range_against_all_lots(self):
        for graph, known, found in FITTING[::2]:
            lots = {numbers: oracle.all_lots(graph, numbers) for numbers in found[:60]}
            if len(lots) == len(found):
                for path in oracle.all_paths(graph):
                    self.check_lots(graph, known, path, lots)

    def check_lots(self, graph, known, path, lots):
        by_number = {}
        for numbers in lots:
            for number in oracle_bounds.numbers_gone(lots[numbers], path):
                by_number.setdefault(number, []).append(numbers)
        least, greatest = min(by_number), max(by_number)
        self.assertEqual(sorted(by_number), list(range(least, greatest + 1)))
        self.assertEqual(ranges.path_range(graph, known, path), (least, greatest))
        for number in range(-1, greatest + 2):
            numbers = ranges.counts_for(graph, known, path, number)
            if number in by_number:
                self.assertIn(numbers, by_number[number])
            else:
                self.assertIsNone(numbers)
            for other in lots:
                expected = other in by_number.get(number, [])
                self.assertIs(ranges.is_counts_for(graph, known, path, number, other), expected)

    def test_path_range_by_formulas(self):
        for graph, known, found in FITTING[1::2]:
            for path in oracle.all_paths(graph):
                least = min(oracle_bounds.sure(graph, numbers, path) for numbers in found)
                greatest = max(self.least_on(graph, numbers, path) for numbers in found)
                self.assertEqual(ranges.path_range(graph, known, path), (least, greatest))
                for number in (least - 1, least, (least + greatest) // 2, greatest, greatest + 1, -GREAT, GREAT):
                    self.check_counts_for(graph, known, path, number, least <= number <= greatest)

    def least_on(self, graph, numbers, path):
        return min(oracle.sum_of(graph, numbers, (edge,)) for edge in oracle.edges_on(path))

    def check_counts_for(self, graph, known, path, number, expected):
        numbers = ranges.counts_for(graph, known, path, number)
        if expected:
            self.assertTrue(oracle_bounds.is_within(graph, known, numbers))
            span = (oracle_bounds.sure(graph, numbers, path), self.least_on(graph, numbers, path))
            self.assertTrue(span[0] <= number <= span[1])
            self.assertIs(ranges.is_counts_for(graph, known, path, number, numbers), True)
            self.assertIs(ranges.is_counts_for(graph, known, path, span[1] + 1, numbers), False)
            self.assertIs(ranges.is_counts_for(graph, known, path, span[0] - 1, numbers), False)
        else:
            self.assertIsNone(numbers)

    def test_great_ones(self):
        chance = random.Random("paths")
        for graph, known in GREATS:
            if ranges.can_fit(graph, known):
                for path in chance.sample(oracle.all_paths(graph), min(5, len(oracle.all_paths(graph)))):
                    least, greatest = ranges.path_range(graph, known, path)
                    for number in (least - 1, least, (least + greatest) // 2, greatest, greatest + 1, -1):
                        self.check_counts_for(graph, known, path, number, least <= number <= greatest)
                    raised = tuple((max(low, greatest + 1) if edge in oracle.edges_on(path) else low, high)
                                   for edge, (low, high) in zip(graph, known))
                    if oracle_bounds.is_ranges(graph, raised):
                        self.assertTrue(oracle_bounds.is_bar(graph, raised, ranges.range_bar(graph, raised)))
                    self.check_many_times(graph, known, path, least)

    def test_paths_that_come_to_a_bar_several_times(self):
        # Long ways, low bounds of all kinds: the greatest number, sought by halves.
        found = 0
        for seed, graph in enumerate(([STAIRS, LADDER, TWOFOLD] + oracle.some_graphs("bars", 40)) * 6):
            chance = random.Random(seed)
            numbers = oracle.some_counts(graph, seed, 6, 6)
            known = tuple((max(0, number - chance.choice((0, 1, 3, 9))), number + chance.choice((0, 1, 3, 9)))
                          for number in numbers)
            path = max(oracle.all_paths(graph), key=lambda path: (len(path), chance.random()))
            low, high = 0, min(top for edge, (_, top) in zip(graph, known) if edge in oracle.edges_on(path))
            found += len(path) > 4
            while low < high:
                middle = (low + high + 1) // 2
                raised = tuple((max(least, middle) if edge in oracle.edges_on(path) else least, top)
                               for edge, (least, top) in zip(graph, known))
                low, high = (middle, high) if ranges.can_fit(graph, raised) else (low, middle - 1)
            self.assertEqual(ranges.path_range(graph, known, path)[1], low)
        self.assertGreater(found, 20)
        # Into b and d together come 10 at least, and what the way brings once more; 14 at most go out of them.
        twice = (("b", "c"), ("b", "d"), ("c", "d"), ("c", "t"), ("d", "t"), ("s", "b"))
        known = ((0, 7), (0, 99), (0, 9), (0, 99), (0, 7), (10, 20))
        self.assertEqual(ranges.path_range(twice, known, ("s", "b", "c", "d", "t")), (0, 4))

    def check_many_times(self, graph, known, path, least):
        """Bounds so many times as great: so is the least sum, as no least one is between whole numbers."""
        for times in (3, GREAT):
            more = tuple((low * times, high * times) for low, high in known)
            self.assertEqual(ranges.path_range(graph, more, path)[0], least * times)

    def test_single_counts_tell_what_they_tell_alone(self):
        for graph in GRAPHS:
            for seed in range(4):
                numbers = oracle.some_counts(graph, seed, GREAT, 12)
                known = tuple((number, number) for number in numbers)
                self.assertEqual(ranges.counts_within(graph, known), numbers)
                self.assertEqual(ranges.loose_edges(graph, known), ())
                for path in oracle.all_paths(graph)[::17]:
                    expected = (oracle_bounds.sure(graph, numbers, path), self.least_on(graph, numbers, path))
                    self.assertEqual(ranges.path_range(graph, known, path), expected)

    def test_is_counts_for_of_things_of_all_kinds(self):
        path, numbers = ("a", "m", "c"), (8, 2, 6, 4, 6, 4, 8, 2)
        for thing in [numbers] + oracle.twisted(numbers) + list(oracle.ODD_THINGS):
            expected = oracle_bounds.is_within(FORK, NEAR, thing) and 4 <= 4 <= 6
            self.assertIs(ranges.is_counts_for(FORK, NEAR, path, 4, thing), expected, thing)


class Errors(unittest.TestCase):
    def test_no_counts(self):
        for graph, known, _ in TIGHT:
            for function in RAISE:
                self.assertRaises(NoCounts, function, graph, known)
            for name in oracle.names_of(graph):
                self.assertRaises(NoCounts, ranges.through_range, graph, known, name)
            for path in oracle.all_paths(graph)[:4]:
                self.assertRaises(NoCounts, ranges.path_range, graph, known, path)
                for number in (-1, 0, 1, GREAT):
                    self.assertRaises(NoCounts, ranges.counts_for, graph, known, path, number)
                    for thing in ((0,) * len(graph), None, [], "st"):
                        self.assertRaises(NoCounts, ranges.is_counts_for, graph, known, path, number, thing)

    def test_no_block_comes_first(self):
        for graph, known, _ in TIGHT[::5] + FITTING[::9]:
            for name in ("", "none", "S", " s", "a" * 400):
                with self.assertRaises(NoBlock) as caught:
                    ranges.through_range(graph, known, name)
                self.assertEqual(vars(caught.exception), {"block": name})


if __name__ == "__main__":
    unittest.main()
