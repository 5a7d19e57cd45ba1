"""Promise [12], and [1] (d): each function of wrong.py, compared with all COUNTS, all sets of EDGES, all dams."""

import itertools
import random
import unittest

from runsbehind import wrong
from runsbehind.errors import NoCounts, NoEdge

from tests import oracle, oracle_bounds
from tests.oracle import DEEP, FORK, LADDER, ONE_EDGE, SKIP, STAIRS, TWOFOLD
from tests.test_counts import SMALL

GREAT = 10 ** 30
NOTED = (7, 3, 6, 4, 6, 5, 7, 3)
GOOD = (7, 3, 6, 4, 6, 4, 7, 3)
WITH_SOME = (wrong.can_be_wrong, wrong.wrong_dam, wrong.put_right)
# 10 EDGES, with a long way around.
TEN = tuple(sorted([("s", "a"), ("s", "b"), ("a", "b"), ("a", "m"), ("b", "m"), ("m", "c"), ("m", "d"), ("c", "t"),
                    ("d", "t"), ("s", "t")]))


def some_noted(graph, seed, most, many):
    """So many tuples of numbers, always the same ones for a seed: COUNTS, COUNTS with some numbers wrong, any."""
    chance = random.Random(seed)
    found = [(0,) * len(graph)]
    for turn in range(many):
        numbers = list(oracle.some_counts(graph, turn, max(1, most // 2), 2))
        for at in chance.sample(range(len(graph)), min(len(graph), turn % 4)):
            numbers[at] = chance.randint(0, most)
        found.append(tuple(numbers))
        found.append(tuple(chance.randint(0, most) for _ in graph))
    return found


def worlds():
    """Small GRAPHS with small numbers, and all COUNTS up to a TOTAL of what these come to."""
    for seed, graph in enumerate(SMALL + [SKIP, ONE_EDGE] + list(oracle.small_graphs(5))[::60]):
        table = list(oracle.lots_up_to(graph, 6))
        for noted in some_noted(graph, seed, 3, 6):
            if sum(noted) <= 6 or len(graph) == 1:
                yield graph, noted, table


ALL = list(worlds())


def great_worlds():
    for seed, graph in enumerate([LADDER, STAIRS, TWOFOLD, FORK, DEEP, TEN] + oracle.some_graphs("wrong", 8)):
        for noted in some_noted(graph, seed, GREAT, 3) + some_noted(graph, seed, 9, 3):
            yield graph, noted


GREATS = list(great_worlds())


def some_sets(graph, seed, many):
    chance = random.Random(seed)
    return [(), graph] + [tuple(sorted(chance.sample(graph, chance.randint(0, len(graph))))) for _ in range(many)]


class Forms(unittest.TestCase):
    def test_is_noted(self):
        for graph, noted in ((SKIP, (0, 5, GREAT)), (ONE_EDGE, (1,)), (FORK, NOTED)):
            for thing in [noted] + oracle.twisted(noted) + list(oracle.ODD_THINGS):
                self.assertIs(wrong.is_noted(graph, thing), oracle_bounds.is_noted(graph, thing), thing)

    def test_misfits(self):
        for graph, noted in [world[:2] for world in ALL] + GREATS:
            expected = oracle_bounds.misfits(graph, noted)
            self.assertEqual(wrong.misfits(graph, noted), expected)
            self.assertEqual(expected == (), oracle.is_counts(graph, noted))


class Sets(unittest.TestCase):
    def test_all_sets_of_edges(self):
        for graph, noted, table in ALL:
            fitting = []
            for some in oracle.subsets(graph) if len(graph) < 8 else some_sets(graph, 1, 40):
                right = [numbers for numbers in table if oracle_bounds.is_right(graph, noted, some, numbers)]
                dams = [side for side in oracle_bounds.all_sides(graph)
                        if oracle_bounds.is_dam(graph, noted, some, side)]
                self.assertEqual(dams == [], right != [], (graph, noted, some))
                self.assertIs(wrong.can_be_wrong(graph, noted, some), right != [])
                found, dam = wrong.put_right(graph, noted, some), wrong.wrong_dam(graph, noted, some)
                if right:
                    fitting.append(some)
                    self.assertIsNone(dam)
                    self.assertTrue(oracle_bounds.is_right(graph, noted, some, found))
                    self.check_ranges(graph, noted, some, right)
                else:
                    self.assertIsNone(found)
                    self.assertIn(dam, dams)
                    for edge in graph:
                        self.assertRaises(NoCounts, wrong.right_range, graph, noted, some, edge)
            if len(graph) < 8:
                self.check_fewest(graph, noted, fitting)

    def check_fewest(self, graph, noted, fitting):
        fewest = len(fitting[0])
        sets = [some for some in fitting if len(some) == fewest]
        self.assertEqual(wrong.fewest_wrong(graph, noted), fewest)
        self.assertEqual(wrong.wrong_sets(graph, noted), sets)
        self.assertEqual(wrong.suspects(graph, noted), tuple(edge for edge in graph if any(edge in s for s in sets)))
        sure = tuple(edge for edge in graph if all(edge in some for some in sets))
        self.assertEqual(wrong.surely_wrong(graph, noted), sure)
        self.assertEqual(fewest == 0, oracle.is_counts(graph, noted))

    def check_ranges(self, graph, noted, some, right):
        free = [run for run in oracle.all_runs(graph) if set(oracle.edges_on(run)) <= set(some)]
        for at, edge in enumerate(graph):
            column = [numbers[at] for numbers in right]
            unbounded = any(edge in oracle.edges_on(run) for run in free)
            expected = (min(column), None if unbounded else max(column))
            self.assertEqual(wrong.right_range(graph, noted, some, edge), expected, (graph, noted, some, edge))

    def test_dams_and_what_is_right(self):
        for graph, noted, table in ALL[::3]:
            for some in some_sets(graph, 5, 6):
                for side in oracle_bounds.all_sides(graph):
                    expected = oracle_bounds.is_dam(graph, noted, some, side)
                    self.assertIs(wrong.is_wrong_dam(graph, noted, some, side), expected)
                for numbers in table[::5]:
                    expected = oracle_bounds.is_right(graph, noted, some, numbers)
                    self.assertIs(wrong.is_put_right(graph, noted, some, numbers), expected)

    def test_things_of_all_kinds(self):
        some, dam = (("m", "c"),), (("d",), "in")
        self.assertIs(wrong.is_wrong_dam(FORK, NOTED, some, dam), True)
        for thing in oracle.twisted(dam) + list(oracle.ODD_THINGS) + [((), "in"), (("s",), "out"), (("d", "t"), "in")]:
            self.assertIs(wrong.is_wrong_dam(FORK, NOTED, some, thing), oracle_bounds.is_dam(FORK, NOTED, some, thing))
        # Leading out, and with other words in the place of the one.
        self.assertIs(wrong.is_wrong_dam(FORK, NOTED, (("c", "t"),), (("m",), "out")), True)
        for word in ("", "on", "outin", "OUT", None, True, 1, ("out",), ["out"]):
            self.assertIs(wrong.is_wrong_dam(FORK, NOTED, (("c", "t"),), (("m",), word)), False)
        for thing in oracle.ODD_THINGS:
            for other in ((thing, "in"), (("d",), thing)):
                expected = oracle_bounds.is_dam(FORK, NOTED, some, other)
                self.assertIs(wrong.is_wrong_dam(FORK, NOTED, some, other), expected)
        some = (("m", "d"),)
        for thing in [GOOD] + oracle.twisted(GOOD) + list(oracle.ODD_THINGS):
            expected = oracle_bounds.is_right(FORK, NOTED, some, thing)
            self.assertIs(wrong.is_put_right(FORK, NOTED, some, thing), expected)
            near = oracle.is_counts(FORK, thing) and oracle_bounds.change(NOTED, thing) == 1
            self.assertIs(wrong.is_nearest(FORK, NOTED, thing), near)

    def test_great_ones_show_it(self):
        both = set()
        for seed, (graph, noted) in enumerate(GREATS):
            for some in some_sets(graph, seed, 6):
                found, dam = wrong.put_right(graph, noted, some), wrong.wrong_dam(graph, noted, some)
                both.add(found is None)
                if found is None:
                    self.assertTrue(oracle_bounds.is_dam(graph, noted, some, dam))
                    self.assertIs(wrong.can_be_wrong(graph, noted, some), False)
                    self.assertRaises(NoCounts, wrong.right_range, graph, noted, some, graph[0])
                else:
                    self.assertTrue(oracle_bounds.is_right(graph, noted, some, found))
                    self.assertIsNone(dam)
                    self.check_great_range(graph, noted, some, graph[seed % len(graph)])
        self.assertEqual(len(both), 2)

    def check_great_range(self, graph, noted, some, edge):
        least, greatest = wrong.right_range(graph, noted, some, edge)
        free = [run for run in oracle.all_runs(graph) if set(oracle.edges_on(run)) <= set(some)]
        self.assertEqual(greatest is None, any(edge in oracle.edges_on(run) for run in free))
        # With the count of this EDGE told, it is no longer one of those that can be wrong.
        rest = tuple(other for other in some if other != edge)
        at = graph.index(edge)
        if edge not in some:
            self.assertEqual((least, greatest), (noted[at], noted[at]))
            return
        for number, fits in ((least, True), (least - 1, False), (greatest, True)):
            told = noted[:at] + (number,) + noted[at + 1:]
            if number is not None and number >= 0:
                self.assertIs(wrong.can_be_wrong(graph, told, rest), fits)
        if greatest is not None:
            told = noted[:at] + (greatest + 1,) + noted[at + 1:]
            self.assertTrue(oracle_bounds.is_dam(graph, told, rest, wrong.wrong_dam(graph, told, rest)))
        if greatest is None:
            told = noted[:at] + (least + GREAT,) + noted[at + 1:]
            self.assertIs(wrong.can_be_wrong(graph, told, rest), True)


class Fewest(unittest.TestCase):
    def test_ten_edges(self):
        for seed, graph in enumerate((TEN, DEEP, FORK)):
            for noted in some_noted(graph, seed, GREAT, 4) + some_noted(graph, seed, 3, 4):
                found = wrong.wrong_sets(graph, noted)
                fewest = len(found[0])
                self.assertEqual(wrong.fewest_wrong(graph, noted), fewest)
                for some in oracle.subsets(graph):
                    if len(some) > fewest:
                        break
                    dams = (oracle_bounds.is_dam(graph, noted, some, side) for side in oracle_bounds.all_sides(graph))
                    self.assertEqual(some in found, not any(dams))
                self.assertEqual(found, sorted(set(found)))

    def test_what_is_noted_may_be_right(self):
        for graph in (TEN, FORK, SKIP, ONE_EDGE):
            for seed in range(3):
                noted = oracle.some_counts(graph, seed, GREAT, 5)
                self.assertEqual(wrong.fewest_wrong(graph, noted), 0)
                self.assertEqual(wrong.wrong_sets(graph, noted), [()])
                self.assertEqual((wrong.suspects(graph, noted), wrong.surely_wrong(graph, noted)), ((), ()))
                self.assertIs(wrong.can_be_wrong(graph, noted, ()), True)
                self.assertEqual(wrong.put_right(graph, noted, ()), noted)
                self.assertEqual(wrong.right_range(graph, noted, (), graph[0]), (noted[0], noted[0]))
                self.assertEqual(wrong.right_range(graph, noted, graph, graph[0]), (0, None))

    def test_many_must_be_wrong(self):
        names = "bcde"
        wide = tuple(sorted([("a", name) for name in names] + [(name, "z") for name in names]))
        noted = tuple(1 if edge[0] == "a" else 2 for edge in wide)
        self.assertEqual(wrong.fewest_wrong(wide, noted), 4)
        self.assertEqual(len(wrong.wrong_sets(wide, noted)), 16)
        self.assertEqual((wrong.suspects(wide, noted), wrong.surely_wrong(wide, noted)), (wide, ()))


class Nearest(unittest.TestCase):
    def test_against_all_counts(self):
        for graph, noted, table in ALL:
            least = min(oracle_bounds.change(noted, numbers) for numbers in table)
            self.assertEqual(wrong.least_change(graph, noted), least)
            found = wrong.nearest_counts(graph, noted)
            self.assertTrue(oracle.is_counts(graph, found))
            self.assertEqual(oracle_bounds.change(noted, found), least)
            for numbers in table[::3] + [found]:
                expected = oracle_bounds.change(noted, numbers) == least
                self.assertIs(wrong.is_nearest(graph, noted, numbers), expected)
            self.check_guarantee(graph, noted, least)

    def check_guarantee(self, graph, noted, least):
        off = [abs(number) for _, number in oracle_bounds.misfits(graph, noted)]
        self.assertGreaterEqual(least, max(off, default=0))
        self.assertGreaterEqual(2 * least, sum(off))

    def test_great_ones(self):
        for graph, noted in GREATS:
            found, least = wrong.nearest_counts(graph, noted), wrong.least_change(graph, noted)
            self.assertTrue(oracle.is_counts(graph, found))
            self.assertEqual(oracle_bounds.change(noted, found), least)
            self.assertIs(wrong.is_nearest(graph, noted, found), True)
            self.check_guarantee(graph, noted, least)
            self.assertTrue(self.is_least(graph, noted, found))
            # No least change is between whole numbers: so of all numbers so many times as great it is so, too.
            for times in (2, GREAT):
                more = tuple(number * times for number in noted)
                self.assertEqual(wrong.least_change(graph, more), least * times)

    def is_least(self, graph, noted, found):
        """Whether no ring of steps, up or down by one, makes the change less (by distances from block to block)."""
        ends = (oracle.entry_of(graph), oracle.exit_of(graph))
        steps = []
        for edge, number, count in zip(graph, noted, found):
            begin, end = ["" if name in ends else name for name in edge]
            steps.append((begin, end, 1 if count >= number else -1))
            if count > 0:
                steps.append((end, begin, 1 if count <= number else -1))
        far = {name: 0 for step in steps for name in step[:2]}
        for _ in range(len(far) + 1):
            before = dict(far)
            for begin, end, cost in steps:
                far[end] = min(far[end], far[begin] + cost)
        return far == before


class Errors(unittest.TestCase):
    def test_no_edge_comes_first(self):
        for some, first in (((("m", "c"), ("m", "t")), ("m", "t")), ((("a", "a"), ("z", "z")), ("a", "a")),
                            ((("a", "m"), ("a", "z"), ("m", "c"), ("zz", "zz")), ("a", "z"))):
            for function in WITH_SOME:
                self.check(first, function, FORK, NOTED, some)
            for thing in ((("d",), "in"), None, GOOD, [], "m"):
                self.check(first, wrong.is_wrong_dam, FORK, NOTED, some, thing)
                self.check(first, wrong.is_put_right, FORK, NOTED, some, thing)
            for edge in (("m", "c"), ("x", "y")):
                self.check(first, wrong.right_range, FORK, NOTED, some, edge)
        # The EDGE comes behind those of some, and ahead of the COUNTS that are not there.
        self.check(("x", "y"), wrong.right_range, FORK, NOTED, (("m", "c"),), ("x", "y"))
        self.check(("m", "m"), wrong.right_range, FORK, GOOD, (), ("m", "m"))
        self.assertRaises(NoCounts, wrong.right_range, FORK, NOTED, (("m", "c"),), ("m", "c"))
        self.assertRaises(NoCounts, wrong.right_range, FORK, NOTED, (), ("s", "a"))

    def check(self, first, function, *values):
        with self.assertRaises(NoEdge) as caught:
            function(*values)
        self.assertEqual(repr(caught.exception.edge), repr(first))
        with self.assertRaises(NoEdge) as caught:
            function(*[value if at == 3 and "thing" in function.__code__.co_varnames else oracle.as_lists(value)
                       for at, value in enumerate(values)])
        self.assertEqual(repr(caught.exception.edge), repr(first))


class Products(unittest.TestCase):
    def test_all_small_numbers_of_a_graph(self):
        table = list(oracle.lots_up_to(SKIP, 9))
        for noted in itertools.product(range(4), repeat=3):
            for some in oracle.subsets(SKIP):
                right = [numbers for numbers in table if oracle_bounds.is_right(SKIP, noted, some, numbers)]
                self.assertIs(wrong.can_be_wrong(SKIP, noted, some), right != [])
            self.assertEqual(wrong.least_change(SKIP, noted), abs(noted[1] - noted[2]))


if __name__ == "__main__":
    unittest.main()
