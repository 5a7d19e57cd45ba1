"""Promise [5], and what [3] says of COUNTS and LOTS: each function of counts.py."""

import itertools
import unittest

from runsbehind import counts
from runsbehind.errors import NoBlock

from tests import oracle
from tests.oracle import DEEP, FORK, GRAPHS, LADDER, ONE_EDGE, SKIP, STAIRS, TWOFOLD

GREAT = 10 ** 30
SMALL = [graph for many in (2, 3, 4) for graph in oracle.small_graphs(many)]
# For each of these GRAPHS all LOTS up to some TOTAL, by their COUNTS.
TABLES = ([(graph, oracle.lots_up_to(graph, 4)) for graph in SMALL + [SKIP, FORK]]
          + [(graph, oracle.lots_up_to(graph, 3)) for graph in oracle.small_graphs(5)]
          + [(graph, oracle.lots_up_to(graph, 3)) for graph in (DEEP, TWOFOLD)])


def worlds():
    """GRAPHS with COUNTS, small ones and great ones, with all counts 0, too."""
    for seed, graph in enumerate(list(GRAPHS) + oracle.some_graphs("counts", 40)):
        yield graph, (0,) * len(graph)
        for most, many in ((1, 2), (3, 4), (10, 60), (GREAT // 60, 60), (GREAT, 60)):
            yield graph, oracle.some_counts(graph, seed, most, many)


WORLDS = list(worlds())


class Counts(unittest.TestCase):
    def test_is_counts_for_all_small_numbers(self):
        for graph in (SKIP, (("a", "b"),), SMALL[-1]):
            for numbers in itertools.product((-1, 0, 1, 2), repeat=len(graph)):
                self.assertIs(counts.is_counts(graph, numbers), oracle.is_counts(graph, numbers))

    def test_is_counts_of_lots(self):
        for graph, numbers in WORLDS:
            self.assertIs(counts.is_counts(graph, numbers), True)
            self.assertIs(counts.is_counts(graph, list(numbers)), False)

    def test_things_of_all_kinds(self):
        for graph, numbers in ((SKIP, (2, 1, 1)), (ONE_EDGE, (7,)), (FORK, (7, 3, 6, 4, 6, 4, 7, 3)), (SKIP, (0, 0, 0))):
            for thing in list(oracle.ODD_THINGS) + oracle.twisted(numbers):
                self.assertIs(counts.is_counts(graph, thing), oracle.is_counts(graph, thing), thing)

    def test_unbalanced(self):
        for graph in (SKIP, DEEP, FORK, ONE_EDGE, SMALL[-1]):
            inner = [name for name in oracle.names_of(graph) if name not in (oracle.entry_of(graph), oracle.exit_of(graph))]
            for numbers in itertools.product((0, 1, 3), repeat=len(graph)):
                off = [name for name in inner
                       if oracle.flows_in(graph, numbers, name) != oracle.flows_out(graph, numbers, name)]
                self.assertEqual(counts.unbalanced(graph, numbers), tuple(off))
                self.assertEqual(off == [], oracle.is_counts(graph, numbers))

    def test_through_and_total(self):
        for graph, numbers in WORLDS:
            lot = counts.a_lot(graph, numbers)
            for name in oracle.names_of(graph):
                passed = sum(number for run, number in lot if name in run)
                self.assertEqual(counts.through(graph, numbers, name), passed)
            self.assertEqual(counts.total(graph, numbers), sum(number for _, number in lot))

    def test_no_block(self):
        for bad in ("", "x", "S", "st", "nowhere", " m"):
            with self.assertRaises(NoBlock) as caught:
                counts.through(FORK, (0,) * 8, bad)
            self.assertEqual(caught.exception.block, bad)


class Lots(unittest.TestCase):
    def test_is_lot(self):
        for graph, table in TABLES:
            for lots in table.values():
                for lot in lots:
                    self.assertIs(counts.is_lot(graph, lot), True)
                    self.assertIs(counts.is_lot(graph, list(lot)), False)
                    self.assertIs(counts.is_lot(graph, lot[::-1]), len(lot) < 2)

    def test_things_of_all_kinds(self):
        for graph, lot in ((SKIP, ((("s", "t"), 2), (("s", "u", "t"), GREAT))), (SKIP, ()), ((("s", "t"),), ((("s", "t"), 1),))):
            for thing in list(oracle.ODD_THINGS) + oracle.twisted(lot):
                is_lot = oracle.is_lot(graph, thing)
                self.assertIs(counts.is_lot(graph, thing), is_lot, thing)
                for numbers in {oracle.counts_of(graph, lot), (0,) * len(graph)}:
                    expected = is_lot and oracle.counts_of(graph, thing) == numbers
                    self.assertIs(counts.is_lot_for(graph, numbers, thing), expected)

    def test_no_run_twice(self):
        run = ("s", "t")
        self.assertIs(counts.is_lot(SKIP, ((run, 1), (run, 2))), False)
        self.assertIs(counts.is_lot(SKIP, ((run, 1), (run, 1))), False)
        self.assertIs(counts.is_lot(SKIP, ((run, 0),)), False)
        self.assertIs(counts.is_lot(SKIP, ((run, True),)), False)
        self.assertIs(counts.is_lot(SKIP, ((run, 10 ** 50),)), True)

    def test_counts_of_and_goes(self):
        for seed, graph in enumerate(GRAPHS):
            for most, many in ((1, 3), (5, 60), (GREAT, 60)):
                lot = oracle.some_lot(graph, seed, most, many)
                self.assertEqual(counts.counts_of(graph, lot), oracle.counts_of(graph, lot))
                for path in oracle.all_paths(graph):
                    self.assertEqual(counts.goes(lot, path), oracle.goes(lot, path))
            self.assertEqual(counts.counts_of(graph, ()), (0,) * len(graph))
            self.assertEqual(counts.goes((), graph[0]), 0)

    def test_goes_only_blocks_right_behind_one_another(self):
        self.assertEqual(counts.goes(((("s", "u", "t"), 5),), ("s", "t")), 0)
        self.assertEqual(counts.goes(((("s", "t"), 2), (("s", "u", "t"), 5)), ("s", "t")), 2)

    def test_lots_together(self):
        for seed, graph in enumerate(GRAPHS):
            one, other = oracle.some_lot(graph, seed, GREAT, 5), oracle.some_lot(graph, seed + 99, GREAT, 7)
            both = counts.lots_together(one, other)
            self.assertIs(counts.is_lot(graph, both), True)
            for run in oracle.all_runs(graph):
                self.assertEqual(oracle.goes(both, run), oracle.goes(one, run) + oracle.goes(other, run))
            self.assertEqual(counts.lots_together(other, one), both)
            self.assertEqual(counts.lots_together(one, ()), one)
        self.assertEqual(counts.lots_together((), ()), ())

    def test_each_once(self):
        for graph in list(GRAPHS) + SMALL + oracle.some_graphs("once", 30):
            lot = tuple((run, 1) for run in oracle.all_runs(graph))
            self.assertEqual(counts.each_once(graph), oracle.counts_of(graph, lot))


class LotsFor(unittest.TestCase):
    def check_lot(self, graph, numbers):
        lot = counts.a_lot(graph, numbers)
        self.assertTrue(oracle.is_lot(graph, lot))
        self.assertEqual(oracle.counts_of(graph, lot), numbers)
        self.assertIs(counts.is_lot_for(graph, numbers, lot), True)
        self.assertLessEqual(len(lot), counts.enough_runs(graph, numbers))
        self.assertIs(counts.is_lot_for(graph, numbers, counts.lots_together(lot, lot)), lot == ())

    def test_a_lot(self):
        for graph, numbers in WORLDS:
            self.check_lot(graph, numbers)

    def test_a_lot_for_all_small_counts(self):
        for graph, table in TABLES:
            for numbers in table:
                self.check_lot(graph, numbers)

    def test_is_lot_for(self):
        for graph, table in TABLES[::3]:
            for numbers, lots in table.items():
                for other in list(table)[::7]:
                    for lot in lots:
                        self.assertIs(counts.is_lot_for(graph, other, lot), other == numbers)

    def test_enough_runs(self):
        for graph, numbers in WORLDS:
            inner = set(oracle.names_of(graph)) - {oracle.entry_of(graph), oracle.exit_of(graph)}
            live = [number for number in numbers if number]
            passed = [name for name in inner if oracle.flows_in(graph, numbers, name)]
            self.assertEqual(counts.enough_runs(graph, numbers), len(live) - len(passed))

    def test_enough_runs_is_enough_and_wanted(self):
        for graph in SMALL + [SKIP]:
            hardest, enough = {}, {}
            for numbers, lots in oracle.lots_up_to(graph, 7 if len(oracle.all_runs(graph)) < 5 else 4).items():
                live = tuple(number > 0 for number in numbers)
                enough[live] = counts.enough_runs(graph, numbers)
                fewest = min(len(lot) for lot in lots)
                self.assertLessEqual(fewest, enough[live])
                hardest[live] = max(hardest.get(live, 0), fewest)
            self.assertEqual(hardest, enough)

    def test_fork_of_unlike_counts_wants_three(self):
        self.assertEqual(counts.enough_runs(FORK, (2,) * 8), 3)
        self.assertEqual(counts.fewest_runs(FORK, (2,) * 8), 2)
        self.assertEqual(counts.fewest_runs(FORK, (3, 1, 2, 2, 2, 2, 3, 1)), 3)


class FewestAndMost(unittest.TestCase):
    def test_against_all_lots(self):
        for graph, table in TABLES:
            for numbers, lots in table.items():
                self.assertEqual(counts.fewest_runs(graph, numbers), min(len(lot) for lot in lots))
                self.assertEqual(counts.most_runs(graph, numbers), max(len(lot) for lot in lots))

    def test_total_of_eight(self):
        table = oracle.lots_up_to(FORK, 8)
        for numbers, lots in table.items():
            self.assertEqual(counts.fewest_runs(FORK, numbers), min(len(lot) for lot in lots))
            self.assertEqual(counts.most_runs(FORK, numbers), max(len(lot) for lot in lots))

    def test_zero_and_one_edge(self):
        for graph in GRAPHS:
            self.assertEqual(counts.fewest_runs(graph, (0,) * len(graph)), 0)
            self.assertEqual(counts.most_runs(graph, (0,) * len(graph)), 0)
        self.assertEqual(counts.fewest_runs(ONE_EDGE, (8,)), 1)
        self.assertEqual(counts.most_runs(ONE_EDGE, (8,)), 1)

    def test_twelve_runs(self):
        # Three blocks, two and two, all joined to the next ones: 3 * 2 * 2 RUNS.
        graph = tuple(sorted([("s", one) for one in "abc"] + [(one, two) for one in "abc" for two in "xy"]
                             + [(two, three) for two in "xy" for three in "mn"] + [("m", "t"), ("n", "t")]))
        runs = oracle.all_runs(graph)
        self.assertEqual(len(runs), 12)
        numbers = oracle.counts_of(graph, tuple((run, 1) for run in runs[:8]))
        self.assertEqual(counts.most_runs(graph, numbers), 8)
        least = counts.fewest_runs(graph, numbers)
        self.assertTrue(1 <= least <= counts.enough_runs(graph, numbers))
        self.assertEqual(counts.fewest_runs(graph, oracle.counts_of(graph, ((runs[3], 4), (runs[8], 4)))), 2)

    def test_somewhat_beyond_the_bounds(self):
        self.assertEqual(counts.most_runs(LADDER, counts.each_once(LADDER)), 16)
        self.assertEqual(counts.fewest_runs(ONE_EDGE, (500,)), 1)
        self.assertEqual(counts.most_runs(SKIP, (400, 900, 900)), 2)


class Bounds(unittest.TestCase):
    def test_sums_above_the_bound(self):
        numbers = (GREAT, GREAT, GREAT)
        self.assertEqual(counts.total(SKIP, numbers), 2 * GREAT)
        self.assertEqual(counts.through(SKIP, numbers, "t"), 2 * GREAT)
        self.assertEqual(counts.through(SKIP, numbers, "u"), GREAT)
        self.assertEqual(counts.a_lot(SKIP, numbers), ((("s", "t"), GREAT), (("s", "u", "t"), GREAT)))
        twice = counts.lots_together(counts.a_lot(SKIP, numbers), counts.a_lot(SKIP, numbers))
        self.assertEqual(counts.counts_of(SKIP, twice), (2 * GREAT,) * 3)
        self.assertIs(counts.is_counts(SKIP, (2 * GREAT,) * 3), True)

    def test_largest_graphs(self):
        for graph in (LADDER, STAIRS):
            numbers = tuple(number * GREAT for number in counts.each_once(graph))
            self.assertIs(counts.is_counts(graph, numbers), True)
            self.assertEqual(counts.unbalanced(graph, numbers), ())
            self.assertIs(counts.is_lot_for(graph, numbers, counts.a_lot(graph, numbers)), True)


if __name__ == "__main__":
    unittest.main()
