"""Promises [10] and of [1] (d): each function of counters.py, compared with all COUNTS, all SWINGS, all COUNTERS."""

import itertools
import math
import random
import unittest

from runsbehind import counters
from runsbehind.errors import NoCounts, Unfit

from tests import oracle
from tests.oracle import DEEP, FORK, GRAPHS, LADDER, ONE_EDGE, SKIP, STAIRS, TWOFOLD
from tests.test_counts import GREAT, SMALL, TABLES, WORLDS

SEVEN = (7, 3, 6, 4, 6, 4, 7, 3)
NONE = ((), ())
# Two ways that meet nowhere, each from one of two blocks to one of two.
CROSS = tuple(sorted([("s", "a"), ("s", "b"), ("a", "c"), ("a", "d"), ("b", "c"), ("b", "d"), ("c", "t"), ("d", "t")]))


def all_counters(graph):
    return list(itertools.product(oracle.subsets(graph), oracle.subsets(oracle.names_of(graph))))


def some_counters(graph, seed, many):
    """So many COUNTERS, always the same ones for a seed, those of none and of all among them."""
    chance = random.Random(seed)
    names, found = oracle.names_of(graph), [NONE, (graph, ()), ((), tuple(oracle.names_of(graph)))]
    for _ in range(many):
        edges = chance.sample(graph, chance.randint(0, min(len(graph), len(graph) - len(names) + 3)))
        places = chance.sample(names, chance.choice((0, 0, 1, 1, 2, 3)) if len(names) > 2 else chance.randint(0, 2))
        found.append((tuple(sorted(edges)), tuple(sorted(places))))
    return found


def worlds():
    """GRAPHS with COUNTERS: all of the small ones, some of the others."""
    for graph in SMALL + [SKIP, ONE_EDGE]:
        for at, known in enumerate(all_counters(graph)):
            if len(graph) < 5 or not at & 7:
                yield graph, known
    for seed, graph in enumerate(list(GRAPHS) + [CROSS] + list(oracle.small_graphs(5))[::9]
                                 + oracle.some_graphs("counters", 12)):
        for known in some_counters(graph, seed, 9):
            yield graph, known


ALL = list(worlds())


def small_swings(graph):
    """All SWINGS of numbers -1, 0, 1."""
    return [swing for swing in itertools.product((-1, 0, 1), repeat=len(graph))
            if oracle.is_missed_swing(graph, NONE, swing)]


class Forms(unittest.TestCase):
    def test_is_counters(self):
        for graph in (SKIP, FORK, ONE_EDGE):
            edges, places = graph[:2], tuple(oracle.names_of(graph))[:2]
            for thing in ((edges, places), ((), ()), (graph, ()), (edges, ("zzz",)), (edges + (("s", "zz"),), ()),
                          (edges[::-1], ()), ((), places[::-1])):
                for other in [thing] + oracle.twisted(thing):
                    self.assertIs(counters.is_counters(graph, other), oracle.is_counters(graph, other), other)

    def test_is_counters_of_things_of_all_kinds(self):
        for thing in oracle.ODD_THINGS:
            for other in (thing, (thing, ()), ((), thing), (thing, thing), [thing, ()]):
                self.assertIs(counters.is_counters(SKIP, other), oracle.is_counters(SKIP, other), other)

    def test_shown(self):
        for graph, known in ALL:
            for numbers in (oracle.some_counts(graph, 1, 9, 5), oracle.some_counts(graph, 2, GREAT, 40)):
                self.assertEqual(counters.shown(graph, known, numbers), oracle.shown(graph, known, numbers))


class Told(unittest.TestCase):
    def test_told_by_elimination(self):
        for graph, known in ALL:
            edges, places = oracle.told(graph, known)
            self.assertEqual(counters.told_edges(graph, known), edges)
            self.assertEqual(counters.told_blocks(graph, known), places)
            self.assertIs(counters.are_enough(graph, known), edges == graph)

    def test_told_by_pairs_of_counts(self):
        for graph, table in [world for world in TABLES if len(world[0]) < 6][:14]:
            for known in some_counters(graph, 5, 12):
                same = {}
                for numbers in table:
                    same.setdefault(oracle.shown(graph, known, numbers), []).append(numbers)
                everything = (graph, tuple(oracle.names_of(graph)))
                views = [[oracle.shown(graph, everything, numbers) for numbers in group] for group in same.values()]
                edges = tuple(edge for at, edge in enumerate(graph)
                              if all(len({view[0][at] for view in group}) == 1 for group in views))
                places = tuple(name for at, name in enumerate(everything[1])
                               if all(len({view[1][at] for view in group}) == 1 for group in views))
                self.assertEqual(counters.told_edges(graph, known), edges)
                self.assertEqual(counters.told_blocks(graph, known), places)

    def test_swings_of_small_numbers(self):
        for graph in SMALL[-8:] + [SKIP, ONE_EDGE, FORK]:
            swings = small_swings(graph)
            for known in some_counters(graph, 3, 20):
                missed = [swing for swing in swings if oracle.is_missed_swing(graph, known, swing)]
                told = tuple(edge for at, edge in enumerate(graph) if not any(swing[at] for swing in missed))
                self.assertEqual(counters.told_edges(graph, known), told)
                self.assertIs(counters.are_enough(graph, known), missed == [])
                for swing in swings[::7]:
                    self.assertIs(counters.is_missed_swing(graph, known, swing), swing in missed)

    def test_missed_swing(self):
        for graph, known in ALL:
            swing = counters.missed_swing(graph, known)
            if oracle.are_enough(graph, known):
                self.assertIsNone(swing)
            else:
                self.assertTrue(oracle.is_missed_swing(graph, known, swing), (graph, known, swing))
                self.assertLessEqual(set(swing), {-1, 0, 1})
                self.assertIs(counters.is_missed_swing(graph, known, swing), True)
                greater = tuple(number * -GREAT for number in swing)
                self.assertIs(counters.is_missed_swing(graph, known, greater), True)
                self.assertIs(counters.is_missed_swing(graph, known, list(swing)), False)

    def test_is_missed_swing_of_all_small_tuples(self):
        for graph, numbers in ((SKIP, range(-2, 3)), (ONE_EDGE, range(-2, 3)), (SMALL[-1], (-1, 0, 1))):
            for known in some_counters(graph, 4, 12):
                for thing in itertools.product(numbers, repeat=len(graph)):
                    expected = oracle.is_missed_swing(graph, known, thing)
                    self.assertIs(counters.is_missed_swing(graph, known, thing), expected)

    def test_is_missed_swing_of_things_of_all_kinds(self):
        for graph, known, swing in ((SKIP, NONE, (1, 0, 0)), (SKIP, ((("s", "t"),), ()), (0, 5, 5)),
                                    (FORK, ((), ("m",)), (1, -1, 0, 0, 0, 0, 1, -1))):
            for thing in list(oracle.ODD_THINGS) + oracle.twisted(swing):
                expected = oracle.is_missed_swing(graph, known, thing)
                self.assertIs(counters.is_missed_swing(graph, known, thing), expected, thing)


class More(unittest.TestCase):
    def test_spare_counters(self):
        for graph, (edges, places) in ALL:
            spare = [edge for edge in edges
                     if edge in oracle.told(graph, (tuple(other for other in edges if other != edge), places))[0]]
            free = [name for name in places
                    if name in oracle.told(graph, (edges, tuple(other for other in places if other != name)))[1]]
            self.assertEqual(counters.spare_counters(graph, (edges, places)), (tuple(spare), tuple(free)))

    def test_more_counters(self):
        for graph, (edges, places) in ALL[::3]:
            if len(graph) < 9:
                fitting = next(some for some in oracle.subsets(graph)
                               if oracle.are_enough(graph, (edges + some, places)))
                self.assertEqual(counters.more_counters(graph, (edges, places)), fitting)

    def test_more_counters_of_great_graphs(self):
        for graph, (edges, places) in ALL[::5]:
            more = counters.more_counters(graph, (edges, places))
            rows = oracle.rows_of(graph, (edges, places))
            self.assertEqual(len(more), len(graph) - oracle.rank(rows))
            self.assertTrue(oracle.are_enough(graph, (edges + more, places)))
            # Each EDGE is taken unless it tells nothing more, beside those that are there and those taken before it.
            taken = []
            for edge in graph:
                row = rows + [oracle.row_of_edge(graph, known) for known in taken]
                if oracle.rank(row + [oracle.row_of_edge(graph, edge)]) > oracle.rank(row):
                    taken.append(edge)
            self.assertEqual(more, tuple(taken))


class Fewest(unittest.TestCase):
    def graphs(self):
        return SMALL + [SKIP, FORK, DEEP, ONE_EDGE, CROSS] + list(oracle.small_graphs(5))[::12]

    def test_against_all_sets_of_edges(self):
        for graph in self.graphs():
            enough = [some for some in oracle.subsets(graph) if oracle.are_enough(graph, (some, ()))]
            fewest = len(enough[0])
            self.assertEqual(counters.fewest_counters(graph), fewest)
            self.assertEqual(counters.least_counters(graph), enough[0])
            self.assertEqual(counters.how_many_fewest(graph), len([some for some in enough if len(some) == fewest]))
            for prices in self.prices_for(graph):
                cheapest = min(enough, key=lambda some: (oracle.sum_of(graph, prices, some), len(some), some))
                self.assertEqual(counters.cheapest_counters(graph, prices), cheapest)

    def prices_for(self, graph):
        chance = random.Random(len(graph))
        yield (0,) * len(graph)
        yield (GREAT,) * len(graph)
        yield tuple(range(len(graph)))
        yield tuple(range(len(graph)))[::-1]
        for most in (1, 1, 2, 5, GREAT):
            yield tuple(chance.randint(0, most) for _ in graph)
        yield oracle.some_counts(graph, 7, 4, 9)

    def test_largest_graphs(self):
        for graph in (LADDER, STAIRS, TWOFOLD):
            many = len(graph) - len(oracle.names_of(graph)) + 2
            self.assertEqual(counters.fewest_counters(graph), many)
            least = counters.least_counters(graph)
            self.assertEqual(len(least), many)
            self.assertTrue(oracle.are_enough(graph, (least, ())))
            self.assertEqual(counters.how_many_fewest(graph), self.trees(graph))
            for prices in list(self.prices_for(graph))[:6]:
                self.check_cheapest(graph, prices, counters.cheapest_counters(graph, prices))

    def trees(self, graph):
        """How many sets of EDGES, entry and exit being one block, join all blocks without a ring."""
        first, last = oracle.entry_of(graph), oracle.exit_of(graph)
        ends = [tuple(first if name == last else name for name in edge) for edge in graph]
        return self.trees_of(ends)

    def trees_of(self, ends):
        ends = [pair for pair in ends if pair[0] != pair[1]]
        if not ends:
            return 1
        one, other = ends[0]
        joined = [tuple(one if name == other else name for name in pair) for pair in ends[1:]]
        without = self.trees_of(ends[1:]) if self.joins(ends[1:], one, other) else 0
        return self.trees_of(joined) + without

    def joins(self, ends, one, other):
        known, more = {one}, True
        while more:
            more = {name for pair in ends if set(pair) & known for name in pair} - known
            known |= more
        return other in known

    def check_cheapest(self, graph, prices, found):
        self.assertTrue(oracle.are_enough(graph, (found, ())))
        self.assertEqual(len(found), counters.fewest_counters(graph))
        # No other set that is unlike it in one EDGE is cheaper, or as cheap and less: so none at all is.
        for gone, come in itertools.product(found, graph):
            other = tuple(sorted(set(found) - {gone} | {come}))
            if oracle.are_enough(graph, (other, ())) and len(other) == len(found):
                self.assertGreaterEqual((oracle.sum_of(graph, prices, other), other),
                                        (oracle.sum_of(graph, prices, found), found))

    def test_least_places(self):
        for graph in self.graphs() + oracle.some_graphs("places", 6) + list(GRAPHS):
            fitting = [some for some in oracle.subsets(oracle.names_of(graph))
                       if len(some) < 5 and oracle.are_enough(graph, ((), some))]
            if oracle.are_enough(graph, ((), tuple(oracle.names_of(graph)))):
                found = counters.least_places(graph)
                self.assertTrue(oracle.are_enough(graph, ((), found)))
                self.assertTrue(found == fitting[0] if fitting else len(found) > 4)
            else:
                self.assertIsNone(counters.least_places(graph))

    def test_not_even_all_blocks(self):
        self.assertIsNone(counters.least_places(CROSS))
        self.assertEqual(counters.least_places(ONE_EDGE), ("aaaaaaaa",))
        self.assertEqual(counters.least_places(SKIP), ("s", "u"))

    def test_ten_blocks_that_want_many(self):
        # Each block between the ends is a RUN of its own: all of them but one, and an end, or all of them.
        names = "bcdefghi"
        graph = tuple(sorted([("a", name) for name in names] + [(name, "z") for name in names]))
        self.assertEqual(counters.least_places(graph), tuple("abcdefgh"))
        self.assertEqual(counters.how_many_fewest(graph), 2 ** 8)
        self.assertEqual(counters.fewest_counters(graph), 8)


class Back(unittest.TestCase):
    def test_counts_told(self):
        for graph, known in ALL:
            for numbers in (oracle.some_counts(graph, 5, 9, 6), (0,) * len(graph)):
                seen = oracle.shown(graph, known, numbers)
                if oracle.are_enough(graph, known):
                    self.assertEqual(counters.counts_told(graph, known, *seen), numbers)
                else:
                    self.assertRaises(Unfit, counters.counts_told, graph, known, *seen)

    def test_counts_told_of_great_counts(self):
        for graph, numbers in WORLDS[::3]:
            known = (counters.least_counters(graph), ())
            self.assertEqual(counters.counts_told(graph, known, *oracle.shown(graph, known, numbers)), numbers)
            above = tuple(number * GREAT for number in numbers)
            known = (graph, tuple(oracle.names_of(graph)))
            self.assertEqual(counters.counts_told(graph, known, *oracle.shown(graph, known, above)), above)

    def test_no_counts(self):
        for graph, table in [world for world in TABLES if len(world[0]) < 7][::3]:
            for known in [known for known in some_counters(graph, 6, 40) if oracle.are_enough(graph, known)]:
                self.check_all(graph, table, known)

    def check_all(self, graph, table, known):
        """All small numbers that could be shown: just those of COUNTS are told back."""
        most = max(sum(number for _, number in lots[0]) for lots in table.values())
        seen = {oracle.shown(graph, known, numbers): numbers for numbers in table}
        many = len(known[0]) + len(known[1])
        chance = random.Random(many)
        for _ in range(60):
            worths = tuple(chance.randint(-1, 2) for _ in range(many))
            pair = (worths[:len(known[0])], worths[len(known[0]):])
            if pair in seen:
                self.assertEqual(counters.counts_told(graph, known, *pair), seen[pair])
                continue
            try:
                numbers = counters.counts_told(graph, known, *pair)
            except NoCounts as error:
                self.assertEqual(vars(error), {})
            else:
                # COUNTS of a greater TOTAL than those of the table.
                self.assertTrue(oracle.is_counts(graph, numbers))
                self.assertEqual(oracle.shown(graph, known, numbers), pair)
                self.assertGreater(oracle.flows_out(graph, numbers, oracle.entry_of(graph)), most)

    def test_errors_and_their_order(self):
        enough = ((("a", "m"), ("b", "m"), ("c", "t")), ())
        few = ((("a", "m"), ("c", "t")), ())
        for first in ((7, 3, 11), (7, -3, 1), (-1, -1, -1), (0, 0, 1), (GREAT, 0, GREAT + 1)):
            self.assertRaises(NoCounts, counters.counts_told, FORK, enough, first, ())
        for first in ((7, 6), (-7, 6), (0, 0)):
            self.assertRaises(Unfit, counters.counts_told, FORK, few, first, ())
        # Both ends have the same THROUGH, and what more is shown must fit, too.
        known = (("a", "m"), ("c", "t")), ("s", "t")
        self.assertEqual(counters.counts_told(FORK, known, (7, 6), (10, 10)), SEVEN)
        self.assertRaises(NoCounts, counters.counts_told, FORK, known, (7, 6), (10, 11))
        self.assertRaises(NoCounts, counters.counts_told, FORK, known, (7, 6), (11, 10))
        for place in ("s", "t", "m"):
            self.assertEqual(counters.counts_told(FORK, (known[0], (place,)), (7, 6), (10,)), SEVEN)
            self.assertRaises(NoCounts, counters.counts_told, FORK, (known[0], (place,)), (7, 6), (6,))
        everything = (FORK, ("a", "b", "c", "d", "m", "s", "t"))
        seen = (SEVEN, (7, 3, 6, 4, 10, 10, 10))
        self.assertEqual(counters.counts_told(FORK, everything, *seen), SEVEN)
        for at in range(8):
            wrong = tuple(number + (place == at) for place, number in enumerate(seen[0]))
            self.assertRaises(NoCounts, counters.counts_told, FORK, everything, wrong, seen[1])
        for at in range(7):
            wrong = tuple(number + (place == at) for place, number in enumerate(seen[1]))
            self.assertRaises(NoCounts, counters.counts_told, FORK, everything, seen[0], wrong)

    def test_put_back(self):
        for seed, (graph, (edges, places)) in enumerate(ALL):
            told = oracle.told(graph, (edges, ()))[0]
            for most in (9, GREAT):
                numbers = oracle.some_counts(graph, seed, most, 9)
                partial = tuple(number if edge in edges else None for edge, number in zip(graph, numbers))
                expected = tuple(number if edge in told else None for edge, number in zip(graph, numbers))
                self.assertEqual(counters.put_back(graph, partial), expected)

    def test_put_back_of_none_and_all_and_zero(self):
        for graph, numbers in WORLDS[::5]:
            self.assertEqual(counters.put_back(graph, numbers), numbers)
            self.assertEqual(counters.put_back(graph, (None,) * len(graph)), (None,) * len(graph))
        self.assertEqual(counters.put_back(SKIP, (0, None, None)), (0, None, None))
        self.assertEqual(counters.put_back(SKIP, (None, 0, None)), (None, 0, 0))
        # That no count is below 0 tells more, but these COUNTERS do not, whatever the numbers are.
        self.assertEqual(counters.put_back(CROSS, (0, 0, 0, None) + (None,) * 4), (0, 0, 0, None, 0, None, 0, None))


class Edges(unittest.TestCase):
    def test_one_edge(self):
        edge = ONE_EDGE[0]
        self.assertIs(counters.are_enough(ONE_EDGE, NONE), False)
        self.assertEqual(counters.missed_swing(ONE_EDGE, NONE) in ((1,), (-1,)), True)
        self.assertEqual(counters.fewest_counters(ONE_EDGE), 1)
        self.assertEqual(counters.least_counters(ONE_EDGE), (edge,))
        self.assertEqual(counters.how_many_fewest(ONE_EDGE), 1)
        self.assertEqual(counters.cheapest_counters(ONE_EDGE, (GREAT,)), (edge,))
        for places in (("zz",), ("aaaaaaaa",), ("aaaaaaaa", "zz")):
            self.assertEqual(counters.told_edges(ONE_EDGE, ((), places)), (edge,))
            self.assertEqual(counters.told_blocks(ONE_EDGE, ((), places)), ("aaaaaaaa", "zz"))
            self.assertEqual(counters.counts_told(ONE_EDGE, ((), places), (), (GREAT,) * len(places)), (GREAT,))
        self.assertEqual(counters.spare_counters(ONE_EDGE, (ONE_EDGE, ("zz",))), ((edge,), ("zz",)))
        self.assertEqual(counters.put_back(ONE_EDGE, (None,)), (None,))
        self.assertRaises(NoCounts, counters.counts_told, ONE_EDGE, (ONE_EDGE, ()), (-1,), ())

    def test_counts_of_zero(self):
        for graph in GRAPHS:
            zero, known = (0,) * len(graph), (counters.least_counters(graph), tuple(oracle.names_of(graph)))
            seen = ((0,) * len(known[0]), (0,) * len(known[1]))
            self.assertEqual(counters.shown(graph, known, zero), seen)
            self.assertEqual(counters.counts_told(graph, known, *seen), zero)
            self.assertEqual(counters.cheapest_counters(graph, zero), counters.least_counters(graph))
            self.assertIs(counters.is_missed_swing(graph, NONE, zero), False)

    def test_how_many_fewest_by_a_formula(self):
        # All pairs of seven blocks, entry and exit being one block: six blocks, with some EDGES twice.
        for names in ("abc", "abcd", "abcde"):
            graph = tuple(itertools.combinations(names, 2))
            enough = [some for some in itertools.combinations(graph, counters.fewest_counters(graph))
                      if oracle.are_enough(graph, (some, ()))]
            self.assertEqual(counters.how_many_fewest(graph), len(enough))
            self.assertLessEqual(len(enough), math.comb(len(graph), counters.fewest_counters(graph)))


if __name__ == "__main__":
    unittest.main()
