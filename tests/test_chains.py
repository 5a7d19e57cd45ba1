"""Promises [7] and [1] (b): each function of chains.py, compared with going through all LOTS and all sets of EDGES."""

import itertools
import random
import unittest

from runsbehind import chains
from runsbehind.errors import NoEdge

from tests import oracle
from tests.oracle import DEEP, FORK, GRAPHS, LADDER, ONE_EDGE, SKIP, STAIRS, TWOFOLD
from tests.test_counts import GREAT, SMALL, TABLES, WORLDS

NUMBERS = (6, 2, 4, 7, 3, 8, 4, 7, 5)
FIRST, LAST = ("s", "a"), ("x", "t")


def pairs_for(graph, seed, many):
    """So many pairs of a CHAIN and of SHUN beside it, always the same ones for a seed; those of none among them."""
    chance = random.Random(seed)
    chain_list, found = oracle.all_chains(graph), [((), ())]
    for _ in range(many):
        chain = chance.choice(chain_list)
        others = [edge for edge in graph if edge not in chain]
        found.append((chain, tuple(sorted(chance.sample(others, min(len(others), chance.choice((0, 0, 1, 1, 2, 3))))))))
    return found


def behind(graph):
    """All pairs of EDGES such that the second one is behind the first one."""
    return sorted(pair for pair in itertools.permutations(graph, 2) if oracle.is_chain(graph, pair))


class Forms(unittest.TestCase):
    def test_is_chain_for_all_short_tuples_of_edges(self):
        for graph in (SKIP, FORK, DEEP, ONE_EDGE):
            for many in (0, 1, 2, 3):
                for thing in itertools.product(graph, repeat=many):
                    self.assertIs(chains.is_chain(graph, thing), oracle.is_chain(graph, thing))
        for graph in (LADDER, STAIRS, TWOFOLD):
            for thing in itertools.permutations(graph, 2):
                self.assertIs(chains.is_chain(graph, thing), oracle.is_chain(graph, thing))
            for thing in oracle.all_chains(graph)[::11]:
                self.assertIs(chains.is_chain(graph, thing), True)
                self.assertIs(chains.is_chain(graph, list(thing)), False)

    def test_is_chain_of_things_of_all_kinds(self):
        for graph, thing in ((SKIP, (("s", "u"), ("u", "t"))), (FORK, (("s", "a"), ("m", "c"), ("c", "t"))), (SKIP, ())):
            for other in list(oracle.ODD_THINGS) + oracle.twisted(thing):
                self.assertIs(chains.is_chain(graph, other), oracle.is_chain(graph, other), other)

    def test_is_shun(self):
        for graph in (SKIP, FORK):
            for chain in oracle.all_chains(graph)[::3]:
                for thing in itertools.chain(oracle.subsets(graph), itertools.permutations(graph, 2)):
                    expected = list(thing) == sorted(thing) and not set(chain) & set(thing)
                    self.assertIs(chains.is_shun(graph, chain, thing), expected)

    def test_is_shun_of_things_of_all_kinds(self):
        for graph, chain, shun in ((SKIP, (("s", "u"),), (("s", "t"), ("u", "t"))), (SKIP, (), ()),
                                   (FORK, (("a", "m"), ("m", "c")), (("b", "m"), ("d", "t"), ("s", "b")))):
            for thing in list(oracle.ODD_THINGS) + oracle.twisted(shun) + oracle.twisted(chain):
                expected = oracle.is_set_of([edge for edge in graph if edge not in chain], thing)
                self.assertIs(chains.is_shun(graph, chain, thing), expected, thing)

    def test_keeps_and_kept_runs(self):
        for seed, graph in enumerate(list(GRAPHS) + SMALL):
            run_list = oracle.all_runs(graph)
            for chain, shun in pairs_for(graph, seed, 40):
                kept = [at for at, run in enumerate(run_list) if oracle.keeps(chain, shun, run)]
                self.assertEqual(chains.kept_runs(graph, chain, shun), tuple(kept))
                for at, run in enumerate(run_list):
                    self.assertIs(chains.keeps(chain, shun, run), at in kept)


class AllLots(unittest.TestCase):
    """What each function tells is compared with all LOTS that have the COUNTS."""

    def worlds(self, step):
        for seed, (graph, table) in enumerate(TABLES):
            for at, (numbers, lots) in enumerate(list(table.items())[::step]):
                yield (seed, at), graph, numbers, lots
        for graph, numbers in ((FORK, (4, 3, 4, 3, 4, 3, 4, 3)), (DEEP, (3, 1, 2, 3, 2, 4, 2, 3, 3)),
                               (TWOFOLD, (2,) * 12), (DEEP, (2, 2, 3, 2, 3, 4, 3, 2, 5)), (STAIRS, None), (LADDER, None)):
            numbers = numbers or oracle.some_counts(graph, 8, 1, 4)
            yield "more", graph, numbers, oracle.all_lots(graph, numbers)

    def test_least_and_most_and_each_between(self):
        for seed, graph, numbers, lots in self.worlds(2):
            for chain, shun in pairs_for(graph, str(seed), 8):
                kept = {oracle.times_kept(lot, chain, shun) for lot in lots}
                least = chains.least_kept(graph, numbers, chain, shun)
                most = chains.most_kept(graph, numbers, chain, shun)
                self.assertEqual(kept, set(range(least, most + 1)), (graph, numbers, chain, shun))

    def test_kept_lot(self):
        for seed, graph, numbers, lots in self.worlds(5):
            for chain, shun in pairs_for(graph, str(seed), 6):
                kept = {oracle.times_kept(lot, chain, shun) for lot in lots}
                for number in range(-1, max(kept) + 3):
                    lot = chains.kept_lot(graph, numbers, chain, shun, number)
                    self.assertEqual(lot is not None, number in kept)
                    if lot is not None:
                        self.assertIn(lot, lots)
                        self.assertEqual(oracle.times_kept(lot, chain, shun), number)

    def test_is_kept_lot(self):
        for seed, graph, numbers, lots in self.worlds(9):
            for chain, shun in pairs_for(graph, str(seed), 5):
                for lot in lots:
                    kept = oracle.times_kept(lot, chain, shun)
                    for number in range(kept - 1, kept + 2):
                        found = chains.is_kept_lot(graph, numbers, chain, shun, number, lot)
                        self.assertIs(found, number == kept)
                    other = tuple(number + 1 for number in numbers)
                    self.assertIs(chains.is_kept_lot(graph, other, chain, shun, kept, lot), False)

    def test_behind(self):
        for _, graph, numbers, lots in self.worlds(3):
            pairs, many, sure = behind(graph), dict(zip(graph, numbers)), {}
            for pair in pairs:
                sure[pair] = {oracle.times_kept(lot, pair, ()) for lot in lots}
            for edge in graph:
                others = [other for one, other in pairs if one == edge]
                always = tuple(other for other in others if sure[edge, other] == {many[edge]})
                never = tuple(other for other in others if sure[edge, other] == {0})
                self.assertEqual(chains.sure_behind(graph, numbers, edge), always)
                self.assertEqual(chains.never_behind(graph, numbers, edge), never)

    def test_twins_and_strongest(self):
        for _, graph, numbers, lots in self.worlds(3):
            twins, pairs = [], behind(graph)
            for one, other in pairs:
                ways = [[set(oracle.edges_on(run)) for run, _ in lot] for lot in lots]
                if all((one in way) == (other in way) for lot_ways in ways for way in lot_ways):
                    twins.append((one, other))
            self.assertEqual(chains.twin_edges(graph, numbers), tuple(twins))
            least = {pair: min(oracle.times_kept(lot, pair, ()) for lot in lots) for pair in pairs}
            best = min(pairs, key=lambda pair: (-least[pair], pair)) if pairs else None
            self.assertEqual(chains.strongest_pair(graph, numbers), best)


class Papers(unittest.TestCase):
    """The sets of EDGES that bar, compared with all sets of EDGES."""

    def check(self, graph, numbers, chain, shun):
        run_list = oracle.all_runs(graph)
        total = oracle.flows_out(graph, numbers, oracle.entry_of(graph))
        for most in (True, False):
            barred = [run for run in run_list if oracle.keeps(chain, shun, run) is most]
            sets = [some for some in oracle.subsets(graph) if oracle.bars(some, barred)]
            sums = [oracle.sum_of(graph, numbers, some) for some in sets]
            best = {some for some, worth in zip(sets, sums) if worth == min(sums)}
            if most:
                self.assertEqual(chains.most_kept(graph, numbers, chain, shun), min(sums))
                self.assertIn(chains.most_paper(graph, numbers, chain, shun), best)
                is_paper = chains.is_most_paper
            else:
                self.assertEqual(chains.least_kept(graph, numbers, chain, shun), total - min(sums))
                self.assertIn(chains.least_paper(graph, numbers, chain, shun), best)
                is_paper = chains.is_least_paper
            for some in oracle.subsets(graph)[::1 if len(graph) < 7 else 5]:
                self.assertIs(is_paper(graph, numbers, chain, shun, some), some in best)
                self.assertIs(is_paper(graph, numbers, chain, shun, list(some)), False)

    def test_all_sets(self):
        for seed, graph in enumerate(SMALL + [SKIP, ONE_EDGE]):
            for most in (0, 2, 9, GREAT):
                numbers = oracle.some_counts(graph, seed, most, 5) if most else (0,) * len(graph)
                for chain, shun in pairs_for(graph, seed + most, 6):
                    self.check(graph, numbers, chain, shun)

    def test_all_sets_of_greater_graphs(self):
        self.check(DEEP, NUMBERS, (FIRST, LAST), ())
        for seed, graph in enumerate((FORK, DEEP) + tuple(oracle.small_graphs(5))[::25]):
            for chain, shun in pairs_for(graph, seed, 4):
                self.check(graph, oracle.some_counts(graph, seed, 5, 6), chain, shun)

    def test_things_of_all_kinds(self):
        graph, numbers, chain, shun = SKIP, (2, 3, 3), (("s", "u"),), ()
        for thing in list(oracle.ODD_THINGS) + oracle.twisted((("s", "u"),)) + oracle.twisted((("s", "t"),)):
            is_set = oracle.is_set_of(graph, thing)
            self.assertIs(chains.is_most_paper(graph, numbers, chain, shun, thing),
                          is_set and thing in ((("s", "u"),), (("u", "t"),)), thing)
            self.assertIs(chains.is_least_paper(graph, numbers, chain, shun, thing),
                          is_set and thing == (("s", "t"),), thing)
            self.assertIs(chains.is_most_paper(graph, (0, 0, 0), (), graph, thing), is_set)
            self.assertIs(chains.is_least_paper(graph, numbers, (), (), thing), is_set and thing == ())


class ManyCounts(unittest.TestCase):
    """GRAPHS up to 10 blocks and 16 EDGES, counts up to 10 ** 30 and beyond: each answer is shown to be right."""

    def test_lots_and_papers_show_it(self):
        for seed, (graph, numbers) in enumerate(WORLDS):
            run_list, total = oracle.all_runs(graph), oracle.flows_out(graph, numbers, oracle.entry_of(graph))
            for chain, shun in pairs_for(graph, seed, 5):
                least = chains.least_kept(graph, numbers, chain, shun)
                most = chains.most_kept(graph, numbers, chain, shun)
                kept = [run for run in run_list if oracle.keeps(chain, shun, run)]
                others = [run for run in run_list if not oracle.keeps(chain, shun, run)]
                paper = chains.most_paper(graph, numbers, chain, shun)
                self.check_paper(graph, numbers, paper, kept, most)
                self.assertIs(chains.is_most_paper(graph, numbers, chain, shun, paper), True)
                paper = chains.least_paper(graph, numbers, chain, shun)
                self.check_paper(graph, numbers, paper, others, total - least)
                self.assertIs(chains.is_least_paper(graph, numbers, chain, shun, paper), True)
                for number in {least, least + (most - least) // 3, most}:
                    self.check_lot(graph, numbers, (chain, shun), number)
                for number in (least - 1, most + 1, -1, -GREAT, most + GREAT):
                    self.assertIsNone(chains.kept_lot(graph, numbers, chain, shun, number))

    def check_paper(self, graph, numbers, paper, barred, worth):
        self.assertTrue(oracle.is_set_of(graph, paper))
        self.assertTrue(oracle.bars(paper, barred))
        self.assertEqual(oracle.sum_of(graph, numbers, paper), worth)

    def check_lot(self, graph, numbers, pair, number):
        lot = chains.kept_lot(graph, numbers, *pair, number)
        self.assertTrue(oracle.is_lot(graph, lot))
        self.assertEqual(oracle.counts_of(graph, lot), numbers)
        self.assertEqual(oracle.times_kept(lot, *pair), number)
        self.assertIs(chains.is_kept_lot(graph, numbers, *pair, number, lot), True)
        self.assertIs(chains.is_kept_lot(graph, numbers, *pair, number + 1, lot), False)

    def test_behind(self):
        for graph, numbers in WORLDS[::5]:
            pairs, many = behind(graph), dict(zip(graph, numbers))
            least = {pair: chains.least_kept(graph, numbers, pair, ()) for pair in pairs}
            most = {pair: chains.most_kept(graph, numbers, pair, ()) for pair in pairs}
            for edge in graph:
                mine = [pair for pair in pairs if pair[0] == edge]
                self.assertEqual(chains.sure_behind(graph, numbers, edge),
                                 tuple(other for one, other in mine if least[one, other] == many[edge]))
                self.assertEqual(chains.never_behind(graph, numbers, edge),
                                 tuple(other for one, other in mine if most[one, other] == 0))
            twins = tuple(pair for pair in pairs if many[pair[0]] == many[pair[1]] == least[pair])
            self.assertEqual(chains.twin_edges(graph, numbers), twins)
            best = min(pairs, key=lambda pair: (-least[pair], pair)) if pairs else None
            self.assertEqual(chains.strongest_pair(graph, numbers), best)


class Edges(unittest.TestCase):
    def test_no_chain_and_no_shun(self):
        for graph, numbers in WORLDS[::3]:
            total = oracle.flows_out(graph, numbers, oracle.entry_of(graph))
            self.assertEqual(chains.least_kept(graph, numbers, (), ()), total)
            self.assertEqual(chains.most_kept(graph, numbers, (), ()), total)
            paper = chains.least_paper(graph, numbers, (), ())
            self.assertEqual(oracle.sum_of(graph, numbers, paper), 0)
            self.assertIs(chains.is_least_paper(graph, numbers, (), (), ()), True)
            self.assertEqual(chains.least_kept(graph, numbers, (), graph), 0)
            self.assertEqual(chains.most_kept(graph, numbers, (), graph), 0)
            self.assertEqual(chains.most_paper(graph, numbers, (), graph), ())

    def test_one_edge(self):
        edge = ONE_EDGE[0]
        self.assertIs(chains.is_chain(ONE_EDGE, ONE_EDGE), True)
        self.assertIs(chains.is_chain(ONE_EDGE, ONE_EDGE * 2), False)
        self.assertEqual(chains.least_kept(ONE_EDGE, (GREAT,), (edge,), ()), GREAT)
        self.assertEqual(chains.most_kept(ONE_EDGE, (GREAT,), (), (edge,)), 0)
        self.assertEqual(chains.most_paper(ONE_EDGE, (GREAT,), (), ()), (edge,))
        self.assertEqual(chains.least_paper(ONE_EDGE, (GREAT,), (), (edge,)), (edge,))
        self.assertEqual(chains.kept_lot(ONE_EDGE, (GREAT,), (edge,), (), GREAT), ((edge, GREAT),))
        self.assertIsNone(chains.kept_lot(ONE_EDGE, (GREAT,), (edge,), (), GREAT - 1))
        self.assertEqual(chains.sure_behind(ONE_EDGE, (5,), edge), ())
        self.assertEqual(chains.never_behind(ONE_EDGE, (0,), edge), ())
        self.assertEqual(chains.twin_edges(ONE_EDGE, (5,)), ())
        self.assertIsNone(chains.strongest_pair(ONE_EDGE, (5,)))

    def test_counts_of_zero(self):
        for graph in GRAPHS:
            zero = (0,) * len(graph)
            for edge in graph:
                others = tuple(other for one, other in behind(graph) if one == edge)
                self.assertEqual(chains.sure_behind(graph, zero, edge), others)
                self.assertEqual(chains.never_behind(graph, zero, edge), others)
            self.assertEqual(chains.twin_edges(graph, zero), tuple(behind(graph)))
            self.assertEqual(chains.strongest_pair(graph, zero), (behind(graph) or [None])[0])
            self.assertEqual(chains.kept_lot(graph, zero, (graph[0],), (), 0), ())
            self.assertIsNone(chains.kept_lot(graph, zero, (graph[0],), (), 1))

    def test_an_edge_of_count_zero(self):
        numbers = (6, 0, 4, 7, 3, 6, 4, 7, 3)
        self.assertEqual(chains.sure_behind(DEEP, numbers, ("a", "y")), (("y", "t"),))
        self.assertEqual(chains.never_behind(DEEP, numbers, ("a", "y")), (("y", "t"),))
        self.assertEqual(chains.never_behind(DEEP, numbers, ("s", "a")), (("a", "y"),))
        self.assertEqual(chains.sure_behind(DEEP, numbers, ("s", "a")), (("a", "m"),))

    def test_no_edge(self):
        for function in (chains.sure_behind, chains.never_behind):
            for bad in (("s", "m"), ("a", "s"), ("s", "s"), ("x", "nowhere"), ["s", "m"]):
                with self.assertRaises(NoEdge) as caught:
                    function(DEEP, NUMBERS, bad)
                self.assertEqual(caught.exception.edge, tuple(bad))
                self.assertIs(type(caught.exception.edge), tuple)
            self.assertEqual(function(DEEP, NUMBERS, ["s", "a"]), function(DEEP, NUMBERS, ("s", "a")))

    def test_sums_above_the_bound(self):
        numbers = (GREAT,) * 3
        self.assertEqual(chains.least_kept(SKIP, numbers, (), ()), 2 * GREAT)
        self.assertEqual(chains.most_kept(SKIP, numbers, (), (("s", "t"),)), GREAT)
        above = tuple(number * GREAT * 7 for number in NUMBERS)
        self.assertEqual(chains.least_kept(DEEP, above, (FIRST, LAST), ()), 21 * GREAT)
        self.assertEqual(chains.most_kept(DEEP, above, (FIRST, LAST), ()), 42 * GREAT)
        lot = chains.kept_lot(DEEP, above, (FIRST, LAST), (), 22 * GREAT + 1)
        self.assertEqual(oracle.times_kept(lot, (FIRST, LAST), ()), 22 * GREAT + 1)

    def test_is_kept_lot_of_things_of_all_kinds(self):
        graph, numbers, chain, shun = FORK, (7, 3, 6, 4, 6, 4, 7, 3), (("s", "a"), ("c", "t")), (("b", "m"),)
        good = chains.kept_lot(graph, numbers, chain, shun, 4)
        for thing in list(oracle.ODD_THINGS) + oracle.twisted(good):
            fits = oracle.is_lot(graph, thing) and oracle.counts_of(graph, thing) == numbers
            for number in (4, 3, -1):
                expected = fits and oracle.times_kept(thing, chain, shun) == number
                self.assertIs(chains.is_kept_lot(graph, numbers, chain, shun, number, thing), expected, thing)


if __name__ == "__main__":
    unittest.main()
