"""Promises [6] and [1] (a): each function of paths.py, and the guarantees, compared with going through all LOTS."""

import unittest

from runsbehind import counts, paths

from tests import oracle
from tests.oracle import DEEP, FORK, GRAPHS, LADDER, ONE_EDGE, SKIP, TWOFOLD, surplus
from tests.test_counts import GREAT, SMALL, TABLES, WORLDS

SEVEN = (7, 3, 6, 4, 6, 4, 7, 3)


def narrow(graph, numbers, path):
    return min(number for edge, number in zip(graph, numbers) if edge in oracle.edges_on(path))


class Checks(unittest.TestCase):
    """What both of the next ones check of the PATHS and RUNS that are surely gone."""

    def check_greatest(self, graph, numbers, sure):
        greatest = [path for path in sure if not any(path != longer and oracle.holds(longer, path) for longer in sure)]
        self.assertEqual(paths.greatest_sure(graph, numbers), greatest)
        longest = [path for path in sure if len(path) == max(len(other) for other in sure)]
        self.assertEqual(paths.longest_sure(graph, numbers), min(longest) if sure else None)

    def check_left(self, graph, numbers, lot):
        left = paths.left_counts(graph, numbers)
        self.assertEqual(left, tuple(one - other for one, other in zip(numbers, oracle.counts_of(graph, lot))))
        self.assertTrue(oracle.is_counts(graph, left))
        self.assertEqual(paths.sure_lot(graph, left), ())


class AllLots(Checks):
    """What each function tells of COUNTS is compared with all LOTS that have them."""

    def test_least_and_greatest_and_each_between(self):
        for graph, table in TABLES:
            known = oracle.all_paths(graph)
            for numbers, lots in table.items():
                for path in known:
                    gone = {oracle.goes(lot, path) for lot in lots}
                    least, greatest = paths.least_gone(graph, numbers, path), paths.greatest_gone(graph, numbers, path)
                    self.assertEqual(gone, set(range(least, greatest + 1)))
                    self.assertEqual(paths.gone_just(graph, numbers, path), least if len(gone) == 1 else None)
                    self.assertIs(paths.is_surely_gone(graph, numbers, path), min(gone) > 0)
                    self.assertIs(paths.may_be_gone(graph, numbers, path), max(gone) > 0)

    def test_sure_ones(self):
        for graph, table in TABLES:
            known = oracle.all_paths(graph)
            for numbers, lots in table.items():
                sure = [path for path in known if all(oracle.goes(lot, path) for lot in lots)]
                self.assertEqual(paths.sure_paths(graph, numbers), sure)
                self.check_greatest(graph, numbers, sure)
                shares = [(run, min(oracle.goes(lot, run) for lot in lots)) for run in oracle.all_runs(graph)]
                lot = tuple(share for share in shares if share[1])
                self.assertEqual(paths.sure_lot(graph, numbers), lot)
                self.check_left(graph, numbers, lot)

    def test_lot_going(self):
        for graph, table in TABLES[::2]:
            for numbers, lots in table.items():
                for path in oracle.all_paths(graph):
                    gone = {oracle.goes(lot, path) for lot in lots}
                    for number in range(-1, max(gone) + 2):
                        lot = paths.lot_going(graph, numbers, path, number)
                        self.assertEqual(lot is not None, number in gone)
                        self.assertTrue(lot is None or lot in lots and oracle.goes(lot, path) == number)

    def test_is_lot_going(self):
        for graph, table in TABLES[::9]:
            for numbers, lots in table.items():
                for path in oracle.all_paths(graph):
                    for lot in lots:
                        gone = oracle.goes(lot, path)
                        for number in range(gone - 1, gone + 2):
                            found = paths.is_lot_going(graph, numbers, path, number, lot)
                            self.assertIs(found, number == gone)

    def test_telling_edges(self):
        for graph, table in TABLES:
            for path in oracle.all_paths(graph):
                telling, always = set(oracle.edges_on(path)), True
                for numbers in table:
                    least, greatest = paths.least_gone(graph, numbers, path), paths.greatest_gone(graph, numbers, path)
                    telling -= {edge for edge, number in zip(graph, numbers) if not least == number == greatest}
                    always = always and least == greatest
                self.assertEqual(paths.telling_edges(graph, path), tuple(sorted(telling)))
                self.assertIs(paths.is_always_told(graph, path), always)
                self.assertEqual(always, bool(telling))

    def test_runs_to_sure(self):
        for graph, table in TABLES[::4]:
            run_list = oracle.all_runs(graph)
            for numbers in table:
                for path in oracle.all_paths(graph):
                    for run in [run for run in run_list if oracle.holds(run, path)]:
                        self.check_to_sure(graph, numbers, path, run)

    def check_to_sure(self, graph, numbers, path, run):
        wanted = paths.runs_to_sure(graph, numbers, path)
        added = 0
        while not paths.is_surely_gone(graph, numbers, path):
            numbers = tuple(number + (edge in oracle.edges_on(run)) for edge, number in zip(graph, numbers))
            added += 1
        self.assertEqual(wanted, added)


class ManyCounts(Checks):
    """GRAPHS up to 10 blocks and 16 EDGES, counts up to 10 ** 30 and beyond."""

    def test_least_and_greatest(self):
        for graph, numbers in WORLDS:
            for path in oracle.all_paths(graph):
                over, most = surplus(graph, numbers, path), narrow(graph, numbers, path)
                least = max(0, over)
                self.assertEqual(paths.least_gone(graph, numbers, path), least)
                self.assertEqual(paths.greatest_gone(graph, numbers, path), most)
                self.assertEqual(paths.gone_just(graph, numbers, path), least if least == most else None)
                self.assertEqual(paths.runs_to_sure(graph, numbers, path), 0 if over > 0 else 1 - over)

    def test_lot_going(self):
        for graph, numbers in WORLDS:
            for path in oracle.all_paths(graph)[::3]:
                least, most = max(0, surplus(graph, numbers, path)), narrow(graph, numbers, path)
                for number in {least, min(least + 1, most), (least + most) // 2, max(most - 1, least), most}:
                    lot = paths.lot_going(graph, numbers, path, number)
                    self.assertTrue(oracle.is_lot(graph, lot))
                    self.assertEqual(oracle.counts_of(graph, lot), numbers)
                    self.assertEqual(oracle.goes(lot, path), number)
                    self.assertIs(paths.is_lot_going(graph, numbers, path, number, lot), True)
                    self.assertIs(paths.is_lot_going(graph, numbers, path, number + 1, lot), False)
                for number in (least - 1, most + 1, -1, -GREAT, most + GREAT):
                    self.assertIsNone(paths.lot_going(graph, numbers, path, number))

    def test_leaks_and_narrowest(self):
        for graph, numbers in WORLDS:
            many = dict(zip(graph, numbers))
            for path in oracle.all_paths(graph):
                steps = oracle.edges_on(path)
                lost = tuple(oracle.flows_in(graph, numbers, begin) - many[begin, end] for begin, end in steps[1:])
                self.assertEqual(paths.leaks(graph, numbers, path), lost)
                self.assertEqual(paths.least_gone(graph, numbers, path), max(0, many[steps[0]] - sum(lost)))
                least = sorted(edge for edge in steps if many[edge] == narrow(graph, numbers, path))
                self.assertEqual(paths.narrowest(graph, numbers, path), tuple(least))

    def test_sure_ones(self):
        for graph, numbers in WORLDS:
            sure = [path for path in oracle.all_paths(graph) if surplus(graph, numbers, path) > 0]
            self.assertEqual(paths.sure_paths(graph, numbers), sure)
            self.check_greatest(graph, numbers, sure)
            shares = [(run, surplus(graph, numbers, run)) for run in oracle.all_runs(graph)]
            lot = tuple(share for share in shares if share[1] > 0)
            self.assertEqual(paths.sure_lot(graph, numbers), lot)
            self.check_left(graph, numbers, lot)

    def test_telling_edges(self):
        for graph in list(GRAPHS) + SMALL:
            for path in oracle.all_paths(graph):
                self.assertEqual(paths.telling_edges(graph, path), self.told_by_the_guarantee(graph, path))
                told = paths.telling_edges(graph, path) != ()
                self.assertIs(paths.is_always_told(graph, path), told)

    def told_by_the_guarantee(self, graph, path):
        found = []
        for at, (begin, end) in enumerate(oracle.edges_on(path)):
            ahead = [name for name in path[1:-1] if path.index(name) <= path.index(begin)]
            behind = [name for name in path[1:-1] if path.index(name) >= path.index(end)]
            if all(len([1 for edge in graph if edge[1] == name]) == 1 for name in ahead) \
                    and all(len([1 for edge in graph if edge[0] == name]) == 1 for name in behind):
                found.append((begin, end))
        return tuple(sorted(found))


class Edges(unittest.TestCase):
    def test_counts_of_zero(self):
        for graph in GRAPHS:
            zero = (0,) * len(graph)
            self.assertEqual(paths.sure_paths(graph, zero), [])
            self.assertEqual(paths.greatest_sure(graph, zero), [])
            self.assertIsNone(paths.longest_sure(graph, zero))
            self.assertEqual(paths.sure_lot(graph, zero), ())
            self.assertEqual(paths.left_counts(graph, zero), zero)
            for path in oracle.all_paths(graph):
                self.assertEqual(paths.gone_just(graph, zero, path), 0)
                self.assertIs(paths.may_be_gone(graph, zero, path), False)
                self.assertEqual(paths.runs_to_sure(graph, zero, path), 1)
                self.assertEqual(paths.lot_going(graph, zero, path, 0), ())
                self.assertIsNone(paths.lot_going(graph, zero, path, 1))
                self.assertEqual(paths.narrowest(graph, zero, path), tuple(sorted(oracle.edges_on(path))))

    def test_one_edge(self):
        path = ("zz", "aaaaaaaa")
        self.assertEqual(paths.gone_just(ONE_EDGE, (GREAT,), path), GREAT)
        self.assertEqual(paths.leaks(ONE_EDGE, (GREAT,), path), ())
        self.assertEqual(paths.sure_lot(ONE_EDGE, (GREAT,)), ((path, GREAT),))
        self.assertEqual(paths.lot_going(ONE_EDGE, (GREAT,), path, GREAT), ((path, GREAT),))
        self.assertIsNone(paths.lot_going(ONE_EDGE, (GREAT,), path, GREAT - 1))
        self.assertEqual(paths.telling_edges(ONE_EDGE, path), (path,))
        self.assertEqual(paths.longest_sure(ONE_EDGE, (1,)), path)

    def test_sums_above_the_bound(self):
        numbers = (GREAT,) * 3
        self.assertEqual(paths.least_gone(SKIP, numbers, ("s", "u", "t")), GREAT)
        above = tuple(number * GREAT for number in counts.each_once(LADDER))
        for path in oracle.all_paths(LADDER):
            self.assertEqual(paths.least_gone(LADDER, above, path), max(0, surplus(LADDER, above, path)))
            lot = paths.lot_going(LADDER, above, path, narrow(LADDER, above, path))
            self.assertEqual(oracle.goes(lot, path), narrow(LADDER, above, path))

    def test_each_number_from_the_least_to_the_greatest(self):
        for graph, numbers in ((FORK, SEVEN), (DEEP, (6, 2, 4, 7, 3, 8, 4, 7, 5)),
                               (TWOFOLD, (6, 4, 7, 3, 5, 5, 7, 3, 5, 5, 6, 4))):
            for path in oracle.all_paths(graph):
                least, most = paths.least_gone(graph, numbers, path), paths.greatest_gone(graph, numbers, path)
                for number in range(least - 2, most + 3):
                    lot = paths.lot_going(graph, numbers, path, number)
                    if least <= number <= most:
                        self.assertTrue(oracle.is_lot(graph, lot))
                        self.assertEqual(oracle.counts_of(graph, lot), numbers)
                        self.assertEqual(oracle.goes(lot, path), number)
                    else:
                        self.assertIsNone(lot)

    def test_things_of_all_kinds(self):
        path, good = ("a", "m", "c"), paths.lot_going(FORK, SEVEN, ("a", "m", "c"), 4)
        for thing in list(oracle.ODD_THINGS) + oracle.twisted(good):
            is_lot = oracle.is_lot(FORK, thing)
            for number in (4, 0, 5, -1):
                expected = is_lot and oracle.counts_of(FORK, thing) == SEVEN and oracle.goes(thing, path) == number
                self.assertIs(paths.is_lot_going(FORK, SEVEN, path, number, thing), expected)


if __name__ == "__main__":
    unittest.main()
