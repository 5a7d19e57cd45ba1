"""Promise [8]: each function of hot.py, compared with going through all LOTS, all PATHS and all sets of RUNS."""

import unittest

from runsbehind import hot
from runsbehind.errors import NoBlock, NoNumber, Unfit

from tests import oracle
from tests.oracle import DEEP, FORK, GRAPHS, LADDER, ONE_EDGE, SKIP, STAIRS, surplus
from tests.test_counts import GREAT, SMALL, TABLES, WORLDS

NUMBERS = (6, 2, 4, 7, 3, 8, 4, 7, 5)


def ranked(graph, numbers, path_list):
    return sorted(path_list, key=lambda path: (-surplus(graph, numbers, path), path))


def best(graph, numbers, path_list):
    """Of the PATHS the least one of those with the greatest SURPLUS; None if there are none."""
    worths = {path: surplus(graph, numbers, path) for path in path_list}
    return min((path for path in worths if worths[path] == max(worths.values())), default=None)


def with_run(graph, numbers, run, times):
    return tuple(number + times * (edge in oracle.edges_on(run)) for edge, number in zip(graph, numbers))


class AllLots(unittest.TestCase):
    def test_hot_paths_and_ends(self):
        for graph, table in TABLES[::2]:
            known = oracle.all_paths(graph)
            for numbers, lots in table.items():
                least = {path: min(oracle.goes(lot, path) for lot in lots) for path in known}
                for bar in range(1, max(least.values()) + 2):
                    found = [path for path in known if least[path] >= bar]
                    self.assertEqual(hot.hot_paths(graph, numbers, bar), found)
                    ends = [path for path in found
                            if not any(other != path and oracle.holds(other, path) for other in found)]
                    self.assertEqual(hot.hot_ends(graph, numbers, bar), ends)

    def test_sure_total(self):
        for graph, table in TABLES:
            for numbers, lots in table.items():
                sure = sum(min(oracle.goes(lot, run) for lot in lots) for run in oracle.all_runs(graph))
                self.assertEqual(hot.sure_total(graph, numbers), sure)
                self.assertLessEqual(sure, sum(number for _, number in lots[0]))


class Surpluses(unittest.TestCase):
    def test_surplus_and_its_guarantees(self):
        for graph, numbers in WORLDS:
            known = oracle.all_paths(graph)
            worths = {path: surplus(graph, numbers, path) for path in known}
            for path in known:
                self.assertEqual(hot.surplus(graph, numbers, path), worths[path])
                for part in (path[1:], path[:-1]):
                    self.assertTrue(len(part) == 1 or worths[part] >= worths[path])

    def test_hot_paths_and_ends(self):
        for graph, numbers in WORLDS[::2]:
            known = oracle.all_paths(graph)
            worths = {path: surplus(graph, numbers, path) for path in known}
            for bar in {1, 2, max(1, max(worths.values()) // 2), max(1, max(worths.values())), max(worths.values()) + 1}:
                found = [path for path in known if worths[path] >= bar]
                self.assertEqual(hot.hot_paths(graph, numbers, bar), found)
                ends = [path for path in found
                        if not any(other != path and oracle.holds(other, path) for other in found)]
                self.assertEqual(hot.hot_ends(graph, numbers, bar), ends)

    def test_hottest(self):
        for graph, numbers in WORLDS[::2]:
            known = oracle.all_paths(graph)
            for many in range(1, len(oracle.names_of(graph)) + 1):
                expected = best(graph, numbers, [path for path in known if len(path) == many + 1])
                self.assertEqual(hot.hottest(graph, numbers, many), expected)
            self.assertIsNone(hot.hottest(graph, numbers, GREAT))

    def test_hot_from_and_goes_on(self):
        for graph, numbers in WORLDS[::2]:
            known, last = oracle.all_paths(graph), oracle.exit_of(graph)
            for block in oracle.names_of(graph):
                expected = best(graph, numbers, [path for path in known if (path[0], path[-1]) == (block, last)])
                self.assertEqual(hot.hot_from(graph, numbers, block), expected)
            self.assertIsNone(hot.hot_from(graph, numbers, last))
            for path in known[::3]:
                longer = [other for other in known if other[:-1] == path]
                block = best(graph, numbers, longer)[-1] if longer else None
                self.assertEqual(hot.goes_on(graph, numbers, path), block)

    def test_nth_hottest_and_hot_place(self):
        for graph, numbers in WORLDS[::2]:
            expected = ranked(graph, numbers, oracle.all_runs(graph))
            self.assertEqual([hot.nth_hottest(graph, numbers, at) for at in range(len(expected))], expected)
            self.assertEqual([hot.hot_place(graph, numbers, run) for run in expected], list(range(len(expected))))

    def test_widest_run(self):
        for graph, numbers in WORLDS:
            width = {run: min(oracle.sum_of(graph, numbers, (edge,)) for edge in oracle.edges_on(run))
                     for run in oracle.all_runs(graph)}
            widest = [run for run in width if width[run] == max(width.values())]
            self.assertEqual(hot.widest_run(graph, numbers), min(widest))

    def test_sure_total(self):
        for graph, numbers in WORLDS:
            sure = sum(max(0, surplus(graph, numbers, run)) for run in oracle.all_runs(graph))
            self.assertEqual(hot.sure_total(graph, numbers), sure)


class Sets(unittest.TestCase):
    def check(self, graph, numbers, number):
        worths = [max(0, surplus(graph, numbers, run)) for run in oracle.all_runs(graph)]
        fitting = [some for some in oracle.subsets(range(len(worths))) if sum(worths[at] for at in some) >= number]
        if not fitting:
            self.assertIsNone(hot.fewest_hot(graph, numbers, number))
            self.assertIsNone(hot.hot_set(graph, numbers, number))
        else:
            # subsets has the smaller ones first, and those of one size ascending.
            self.assertEqual(hot.fewest_hot(graph, numbers, number), len(fitting[0]))
            self.assertEqual(hot.hot_set(graph, numbers, number), fitting[0])

    def test_all_sets_of_runs(self):
        for seed, graph in enumerate(SMALL + [SKIP, FORK, DEEP]):
            for most, many in ((1, 2), (4, 3), (9, 9), (GREAT, 5)):
                numbers = oracle.some_counts(graph, seed, most, many)
                sure = hot.sure_total(graph, numbers)
                for number in {0, -1, 1, 2, 3, sure // 3, sure // 2, sure - 1, sure, sure + 1}:
                    self.check(graph, numbers, number)

    def test_many_sure_runs(self):
        # Each block between the ends is a RUN of its own: what is sure of each is its count.
        names = "bcdefgh"
        graph = tuple(sorted([("a", name) for name in names] + [(name, "z") for name in names]))
        for worths in ((5, 3, 3, 2, 2, 1, 0), (1, 2, 3, 4, 5, 6, 7), (2,) * 7, (0, 4, 0, 4, 1, 3, 9)):
            for number in range(sum(worths) + 2):
                self.check(graph, worths * 2, number)


class Rooms(unittest.TestCase):
    def test_warmed(self):
        for graph, numbers in WORLDS[::11]:
            for run in oracle.all_runs(graph)[::3]:
                more = with_run(graph, numbers, run, 1)
                for path in oracle.all_paths(graph):
                    change = surplus(graph, more, path) - surplus(graph, numbers, path)
                    self.assertEqual(hot.warmed(path, run), change)

    def test_room_for(self):
        for graph, numbers in WORLDS[::7]:
            for run in oracle.all_runs(graph)[::4]:
                for path in oracle.all_paths(graph)[::2]:
                    self.check(graph, numbers, path, run)

    def check(self, graph, numbers, path, run):
        over = surplus(graph, numbers, path)
        for bar in [bar for bar in {1, 2, over // 2, over - 1, over} if 1 <= bar <= over]:
            room = hot.room_for(graph, numbers, path, run, bar)
            if room is None:
                for times in (1, 7, GREAT ** 2):
                    self.assertGreaterEqual(surplus(graph, with_run(graph, numbers, run, times), path), bar)
            else:
                self.assertGreaterEqual(surplus(graph, with_run(graph, numbers, run, room), path), bar)
                self.assertLess(surplus(graph, with_run(graph, numbers, run, room + 1), path), bar)
        for bar in {max(1, over + 1), max(1, over + GREAT)}:
            self.assertRaises(Unfit, hot.room_for, graph, numbers, path, run, bar)

    def test_a_run_that_crosses_twice(self):
        graph = tuple(sorted([("s", "m"), ("s", "a"), ("a", "m"), ("m", "n"), ("m", "b"), ("b", "n"), ("n", "c"),
                              ("n", "t"), ("c", "t")]))
        path, run = ("s", "m", "n", "t"), ("s", "a", "m", "b", "n", "c", "t")
        numbers = oracle.counts_of(graph, ((path, 10),))
        self.assertEqual(hot.warmed(path, run), -2)
        self.assertEqual([hot.room_for(graph, numbers, path, run, bar) for bar in (1, 2, 9, 10)], [4, 4, 0, 0])
        self.assertRaises(Unfit, hot.room_for, graph, numbers, path, run, 11)


class Edges(unittest.TestCase):
    def test_counts_of_zero(self):
        for graph in GRAPHS:
            zero, run_list = (0,) * len(graph), oracle.all_runs(graph)
            self.assertEqual(hot.hot_paths(graph, zero, 1), [])
            self.assertEqual(hot.hot_ends(graph, zero, 1), [])
            self.assertEqual(hot.hottest(graph, zero, 1), graph[0])
            self.assertEqual(hot.nth_hottest(graph, zero, 0), run_list[0])
            self.assertEqual(hot.widest_run(graph, zero), run_list[0])
            self.assertEqual(hot.sure_total(graph, zero), 0)
            self.assertEqual((hot.fewest_hot(graph, zero, 0), hot.fewest_hot(graph, zero, 1)), (0, None))
            self.assertEqual((hot.hot_set(graph, zero, -GREAT), hot.hot_set(graph, zero, 1)), ((), None))
            self.assertRaises(Unfit, hot.room_for, graph, zero, run_list[0], run_list[0], 1)

    def test_one_edge(self):
        path = ONE_EDGE[0]
        self.assertEqual(hot.hot_ends(ONE_EDGE, (GREAT,), GREAT), [path])
        self.assertEqual(hot.hot_ends(ONE_EDGE, (GREAT,), GREAT + 1), [])
        self.assertEqual(hot.hottest(ONE_EDGE, (0,), 1), path)
        self.assertIsNone(hot.hottest(ONE_EDGE, (5,), 2))
        self.assertEqual(hot.hot_from(ONE_EDGE, (5,), "zz"), path)
        self.assertIsNone(hot.hot_from(ONE_EDGE, (5,), "aaaaaaaa"))
        self.assertEqual(hot.hot_set(ONE_EDGE, (GREAT,), GREAT), (0,))
        self.assertIsNone(hot.goes_on(ONE_EDGE, (5,), path))
        self.assertEqual(hot.warmed(path, path), 1)
        self.assertIsNone(hot.room_for(ONE_EDGE, (5,), path, path, 5))

    def test_same_surplus_everywhere(self):
        numbers = (2,) * 8
        self.assertEqual(hot.hottest(FORK, numbers, 4), ("s", "a", "m", "c", "t"))
        self.assertEqual(hot.hot_from(FORK, numbers, "m"), ("m", "c", "t"))
        self.assertEqual(hot.goes_on(FORK, numbers, ("s", "b", "m")), "c")
        self.assertEqual(hot.hot_place(FORK, numbers, ("s", "b", "m", "d", "t")), 3)
        self.assertEqual(hot.widest_run(FORK, numbers), ("s", "a", "m", "c", "t"))

    def test_errors(self):
        for number in (5, -1, -5, GREAT, -GREAT):
            with self.assertRaises(NoNumber) as caught:
                hot.nth_hottest(DEEP, NUMBERS, number)
            self.assertEqual(caught.exception.number, number)
        for block in ("z", "", "S", "st"):
            with self.assertRaises(NoBlock) as caught:
                hot.hot_from(DEEP, NUMBERS, block)
            self.assertEqual(caught.exception.block, block)
        with self.assertRaises(Unfit) as caught:
            hot.room_for(DEEP, NUMBERS, ("a", "m", "x"), ("s", "b", "m", "y", "t"), 4)
        self.assertEqual(vars(caught.exception), {})

    def test_sums_above_the_bound(self):
        above = tuple(number * GREAT * 5 for number in NUMBERS)
        self.assertEqual(hot.surplus(DEEP, above, ("s", "a", "m", "x", "t")), 15 * GREAT)
        self.assertEqual(hot.surplus(DEEP, above, ("s", "b", "m", "y", "t")), -15 * GREAT)
        self.assertEqual(hot.sure_total(DEEP, above), 30 * GREAT)
        self.assertEqual(hot.hot_set(DEEP, above, 20 * GREAT), (0, 2))
        self.assertEqual(hot.room_for(DEEP, above, ("a", "m", "x"), ("s", "b", "m", "y", "t"), 1), 15 * GREAT - 1)

    def test_largest_graphs(self):
        for graph in (LADDER, STAIRS):
            numbers = oracle.some_counts(graph, 5, GREAT, 30)
            expected = ranked(graph, numbers, oracle.all_runs(graph))
            self.assertEqual(hot.nth_hottest(graph, numbers, 0), expected[0])
            self.assertEqual(hot.hot_place(graph, numbers, expected[-1]), len(expected) - 1)

    def test_somewhat_beyond_the_bounds(self):
        # Each PATH is surely gone at least 0 times.
        self.assertEqual(hot.hot_paths(DEEP, NUMBERS, 0), oracle.all_paths(DEEP))
        self.assertEqual(hot.hot_ends(DEEP, NUMBERS, 0), oracle.all_runs(DEEP))
        self.assertIsNone(hot.hottest(DEEP, NUMBERS, 0))
        self.assertIsNone(hot.room_for(DEEP, NUMBERS, ("a", "m", "x"), ("s", "b", "m", "y", "t"), 0))


if __name__ == "__main__":
    unittest.main()
