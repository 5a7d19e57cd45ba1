"""Promises [9] and [1] (c): each function of lots.py, compared with going through all LOTS and all exchanges."""

import itertools
import random
import unittest

from runsbehind import lots
from runsbehind.errors import NoBlock, NoLot, NoNumber

from tests import oracle
from tests.oracle import DEEP, FORK, GRAPHS, LADDER, ONE_EDGE, SKIP, STAIRS, TWOFOLD
from tests.test_counts import GREAT, SMALL, TABLES, WORLDS

SEVEN = (7, 3, 6, 4, 6, 4, 7, 3)
AC, AD, BC, BD = [("s", one, "m", other, "t") for one in "ab" for other in "cd"]
# Three and four ways that meet, and two, two and three: 12 RUNS in both.
THREE_FOUR = tuple(sorted([("s", name) for name in "abc"] + [(name, "m") for name in "abc"]
                          + [("m", name) for name in "defg"] + [(name, "t") for name in "defg"]))
TWO_TWO_THREE = tuple(sorted([("s", one) for one in "ab"] + [(one, other) for one in "ab" for other in "cd"]
                             + [(one, "m") for one in "cd"] + [("m", one) for one in "efg"]
                             + [(one, "t") for one in "efg"]))


def worlds():
    """GRAPHS with COUNTS of small TOTALS, and all LOTS that have them."""
    for graph, table in TABLES:
        yield from ((graph, numbers, found) for numbers, found in table.items())
    for graph in GRAPHS[:6] + (THREE_FOUR,):
        for seed in range(6):
            chance = random.Random(seed)
            bag = [chance.choice(oracle.all_runs(graph)) for _ in range(chance.choice((4, 5, 6)))]
            numbers = oracle.counts_of(graph, oracle.from_bag(bag))
            yield graph, numbers, oracle.all_lots(graph, numbers)


ALL = list(worlds())
# Those that more than one LOT has, and some others.
SOME = [world for world in ALL if len(world[2]) > 1] + ALL[::40]


def live(graph, numbers):
    return [edge for edge, number in zip(graph, numbers) if number]


def live_runs(graph, numbers):
    return [run for run in oracle.all_runs(graph) if set(oracle.edges_on(run)) <= set(live(graph, numbers))]


def is_lots(graph, numbers, lot):
    return oracle.is_lot(graph, lot) and oracle.counts_of(graph, lot) == numbers


class Live(unittest.TestCase):
    def test_live_edges_and_runs(self):
        for graph, numbers in WORLDS:
            self.assertEqual(lots.live_edges(graph, numbers), tuple(live(graph, numbers)))
            self.assertEqual(lots.live_runs(graph, numbers), live_runs(graph, numbers))

    def test_just_the_live_runs_are_in_some_lot(self):
        for graph, numbers, found in ALL:
            inside = {run for lot in found for run, _ in lot}
            self.assertEqual(lots.live_runs(graph, numbers), sorted(inside))

    def test_ways_at_and_open_blocks(self):
        for graph, numbers in WORLDS:
            first, last, open_ones = oracle.entry_of(graph), oracle.exit_of(graph), []
            alive = [path for path in oracle.all_paths(graph)
                     if set(oracle.edges_on(path)) <= set(live(graph, numbers))]
            for block in oracle.names_of(graph):
                back = 1 if block == first else len([path for path in alive if (path[0], path[-1]) == (first, block)])
                onward = 1 if block == last else len([path for path in alive if (path[0], path[-1]) == (block, last)])
                self.assertEqual(lots.ways_at(graph, numbers, block), (back, onward))
                open_ones += [block] if back > 1 and onward > 1 else []
            self.assertEqual(lots.open_blocks(graph, numbers), tuple(open_ones))

    def test_ways_at_no_block(self):
        for block in ("z", "", "S", "st"):
            with self.assertRaises(NoBlock) as caught:
                lots.ways_at(FORK, SEVEN, block)
            self.assertEqual(caught.exception.block, block)

    def test_own_edges(self):
        for graph, numbers in WORLDS[::2]:
            known = live_runs(graph, numbers)
            for run in oracle.all_runs(graph):
                others = {edge for other in known if other != run for edge in oracle.edges_on(other)}
                own = sorted(set(oracle.edges_on(run)) - others) if run in known else []
                self.assertEqual(lots.own_edges(graph, numbers, run), tuple(own))


class Only(unittest.TestCase):
    def test_against_all_lots(self):
        for graph, numbers, found in ALL:
            self.assertIs(lots.is_only_lot(graph, numbers), len(found) == 1)
            self.assertEqual(lots.only_lot(graph, numbers), found[0] if len(found) == 1 else None)
            self.assertEqual(lots.freedom(graph, numbers) == 0, len(found) == 1)

    def test_freedom_and_guarantees(self):
        for graph, numbers in WORLDS:
            known, edges = live_runs(graph, numbers), live(graph, numbers)
            expected = len(known) - (len(edges) - len(oracle.names_of(edges)) + 2) if edges else 0
            self.assertEqual(lots.freedom(graph, numbers), expected)
            only = lots.is_only_lot(graph, numbers)
            self.assertIs(only, expected == 0)
            self.assertIs(only, lots.open_blocks(graph, numbers) == ())
            self.assertIs(only, all(lots.own_edges(graph, numbers, run) for run in known))
            lot = lots.only_lot(graph, numbers)
            self.assertEqual(lot is not None, only)
            self.assertTrue(lot is None or is_lots(graph, numbers, lot))

    def test_lots_apart(self):
        for graph, numbers in WORLDS + [world[:2] for world in ALL]:
            pair = lots.lots_apart(graph, numbers)
            self.assertEqual(pair is None, lots.is_only_lot(graph, numbers))
            if pair is not None:
                self.assertIs(type(pair), tuple)
                self.assertEqual(len(pair), 2)
                self.assertNotEqual(pair[0], pair[1])
                self.assertTrue(is_lots(graph, numbers, pair[0]) and is_lots(graph, numbers, pair[1]))
                self.assertIs(lots.is_lots_apart(graph, numbers, pair), True)
                self.assertIs(lots.is_lots_apart(graph, tuple(2 * number for number in numbers), pair), False)

    def test_is_lots_apart(self):
        for graph, numbers, found in SOME[::3]:
            for one, other in itertools.product(found[:6], repeat=2):
                self.assertIs(lots.is_lots_apart(graph, numbers, (one, other)), one != other)
                self.assertIs(lots.is_lots_apart(graph, numbers, [one, other]), False)
                self.assertIs(lots.is_lots_apart(graph, numbers, (one, other, one)), False)

    def test_is_lots_apart_of_things_of_all_kinds(self):
        numbers, good = (2, 1, 2, 1, 2, 1, 2, 1), (((AC, 1), (AD, 1), (BC, 1)), ((AC, 2), (BD, 1)))
        for thing in list(oracle.ODD_THINGS) + oracle.twisted(good):
            expected = type(thing) is tuple and len(thing) == 2 and thing[0] != thing[1] \
                and all(is_lots(FORK, numbers, lot) for lot in thing)
            self.assertIs(lots.is_lots_apart(FORK, numbers, thing), expected, thing)


class Numbered(unittest.TestCase):
    def test_all_lots(self):
        for graph, numbers, found in ALL:
            self.assertEqual(lots.all_lots(graph, numbers), sorted(found))
            self.assertEqual(lots.how_many_lots(graph, numbers), len(found))

    def test_nth_lot_and_number_of_lot(self):
        for graph, numbers, found in SOME:
            for at, lot in enumerate(sorted(found)[:20]):
                self.assertEqual(lots.nth_lot(graph, numbers, at), lot)
                self.assertEqual(lots.number_of_lot(graph, lot), at)
            for number in (len(found), -1, -len(found), GREAT, -GREAT):
                with self.assertRaises(NoNumber) as caught:
                    lots.nth_lot(graph, numbers, number)
                self.assertEqual(caught.exception.number, number)

    def test_lots_by(self):
        for graph, numbers, found in SOME:
            for path in oracle.all_paths(graph)[::2]:
                gone = [oracle.goes(lot, path) for lot in found]
                expected = tuple((number, gone.count(number)) for number in sorted(set(gone)))
                self.assertEqual(lots.lots_by(graph, numbers, path), expected)

    def test_total_of_eight(self):
        for graph in (THREE_FOUR, TWO_TWO_THREE):
            run_list = oracle.all_runs(graph)
            self.assertEqual(len(run_list), 12)
            lot = oracle.from_bag([run_list[at] for at in (0, 5, 10, 3, 4, 9, 2, 7)])
            numbers = oracle.counts_of(graph, lot)
            found = oracle.all_lots(graph, numbers)
            self.assertGreater(len(found), 60)
            self.assertEqual(lots.all_lots(graph, numbers), found)
            self.assertEqual(lots.how_many_lots(graph, numbers), len(found))
            self.assertEqual(lots.number_of_lot(graph, lot), found.index(lot))

    def test_how_many_lots_of_freedom_one(self):
        for many in (1, 2, 3, 4, 7, GREAT):
            for one, other in ((many, many), (many, 5 * many), (3 * many, many)):
                numbers = (one, other, one, other, one, other, one, other)
                self.assertEqual(lots.how_many_lots(FORK, numbers), min(one, other) + 1)
        self.assertEqual(lots.how_many_lots(FORK, (GREAT, 0, GREAT, 0, GREAT, 0, GREAT, 0)), 1)
        for numbers in itertools.product(range(1, 7), repeat=3):
            table = (numbers[0], numbers[1], numbers[2], sum(numbers[:2]) - numbers[2])
            if table[3] > 0:
                self.check_span(table[:2] + table[2:] + table[2:] + table[:2])

    def check_span(self, numbers):
        found = oracle.all_lots(FORK, numbers)
        self.assertEqual(lots.how_many_lots(FORK, numbers), len(found))
        for run in live_runs(FORK, numbers):
            gone = [oracle.goes(lot, run) for lot in found]
            self.assertEqual(max(gone) - min(gone) + 1, len(found))


class Exchanges(unittest.TestCase):
    def test_exchanges_of(self):
        for graph, numbers, found in ALL:
            for lot in found[:4]:
                self.assertEqual(lots.exchanges_of(lot), oracle.exchanges_of(lot))

    def test_exchanged(self):
        for graph, numbers, found in SOME[::3]:
            for lot in found[:3]:
                for one, other in itertools.product([run for run, _ in lot], repeat=2):
                    for block in set(one) & set(other):
                        self.check(graph, lot, (one, other), block)

    def check(self, graph, lot, pair, block):
        made = lots.exchanged(lot, *pair, block)
        self.assertTrue(oracle.is_lot(graph, made))
        self.assertEqual(oracle.counts_of(graph, made), oracle.counts_of(graph, lot))
        if pair[0] == pair[1] or block in (pair[0][0], pair[0][-1]):
            self.assertEqual(made, lot)
        else:
            bag = oracle.as_bag(lot)
            for run in pair:
                bag.remove(run)
            here, there = pair[0].index(block), pair[1].index(block)
            bag += [pair[0][:here] + pair[1][there:], pair[1][:there] + pair[0][here:]]
            self.assertEqual(made, oracle.from_bag(bag))

    def test_great_numbers(self):
        lot = ((AC, GREAT), (BD, GREAT))
        self.assertEqual(lots.exchanges_of(lot), [((AC, GREAT - 1), (AD, 1), (BC, 1), (BD, GREAT - 1))])
        self.assertEqual(lots.exchanged(lot, BD, AC, "m"), lots.exchanges_of(lot)[0])
        self.assertEqual(lots.exchanged(((AC, 1),), AC, AC, "m"), ((AC, 1),))
        self.assertEqual(lots.exchanges_of(((AC, GREAT),)), [])
        self.assertEqual(lots.exchanges_of(()), [])

    def test_errors_and_their_order(self):
        lot = ((AC, 6), (AD, 1), (BD, 3))
        for one, other, block in ((AC, BC, "m"), (BC, AC, "m"), (BC, BC, "m"), (AC, BC, "z"), (BC, AC, "d")):
            with self.assertRaises(NoLot) as caught:
                lots.exchanged(lot, one, other, block)
            self.assertEqual(vars(caught.exception), {})
        for one, other, block in ((AC, BD, "d"), (AC, BD, "c"), (AC, BD, "z"), (AC, AC, "b"), (AD, BD, "")):
            with self.assertRaises(NoBlock) as caught:
                lots.exchanged(lot, one, other, block)
            self.assertEqual(caught.exception.block, block)
        self.assertRaises(NoLot, lots.exchanged, (), AC, AC, "s")


class Unlike(unittest.TestCase):
    def test_in_both_and_how_unlike(self):
        for graph, numbers, found in SOME:
            for one, other in list(itertools.product(found, repeat=2))[:40]:
                shares = [(run, min(oracle.goes(one, run), oracle.goes(other, run))) for run in oracle.all_runs(graph)]
                both = tuple(share for share in shares if share[1])
                self.assertEqual(lots.in_both(one, other), both)
                total = sum(number for _, number in one)
                self.assertEqual(lots.how_unlike(one, other), total - sum(number for _, number in both))

    def test_in_both_of_great_numbers_and_unlike_counts(self):
        self.assertEqual(lots.in_both(((AC, GREAT), (BD, 2)), ((AC, 3), (AD, 1), (BD, GREAT))), ((AC, 3), (BD, 2)))
        self.assertEqual(lots.in_both(((AC, 1),), ()), ())
        self.assertEqual(lots.how_unlike(((AC, GREAT), (BD, GREAT)), ((AD, GREAT), (BC, GREAT))), 2 * GREAT)
        self.assertEqual(lots.how_unlike((), ()), 0)


class Ways(unittest.TestCase):
    def worlds(self):
        # Those with the most LOTS first: the others are much alike.
        few = sorted(SOME, key=lambda world: -len(world[2]))
        return [world for world in few if len(world[2]) < 150][:60] + few[-5:]

    def test_fewest_exchanges_and_ways(self):
        for graph, numbers, found in self.worlds():
            for one in found[::max(1, len(found) // 3)]:
                far = oracle.distances(one)
                self.assertEqual(sorted(far), sorted(found))
                for other in found[::max(1, len(found) // 12)]:
                    self.assertEqual(lots.fewest_exchanges(graph, one, other), far[other])
                    self.check_way(graph, one, other, far[other])
                    self.check_guarantee(graph, one, other, far[other])

    def check_way(self, graph, one, other, steps):
        way = lots.exchange_way(graph, one, other)
        self.assertIs(type(way), tuple)
        self.assertEqual((way[0], way[-1], len(way)), (one, other, steps + 1))
        for ahead, following in zip(way, way[1:]):
            self.assertIn(following, oracle.exchanges_of(ahead))
        self.assertIs(lots.is_exchange_way(one, other, way), True)
        self.assertIs(lots.is_exchange_way(other, one, way[::-1]), True)
        self.assertIs(lots.is_exchange_way(one, other, list(way)), False)
        self.assertIs(lots.is_exchange_way(one, other, way + way[-1:]), False)
        self.assertIs(lots.is_exchange_way(one, other, way[:1] + way), False)
        if steps:
            self.assertIs(lots.is_exchange_way(one, other, way[::-1]), False)
            self.assertIs(lots.is_exchange_way(one, other, way[:-1]), False)
            self.assertIs(lots.is_exchange_way(one, other, way + way[-2::-1] + way[1:]), True)
        if steps > 2:
            self.assertIs(lots.is_exchange_way(one, other, (one, other)), False)

    def check_guarantee(self, graph, one, other, steps):
        unlike = lots.how_unlike(one, other)
        inner = max(len(run) - 2 for run in oracle.all_runs(graph))
        self.assertGreaterEqual(2 * steps, unlike)
        self.assertTrue(one == other or steps <= (unlike - 1) * inner)

    def test_is_exchange_way_for_all_pairs(self):
        for graph, numbers, found in self.worlds()[5:60:4]:
            for one, other in list(itertools.product(found, repeat=2))[:60]:
                expected = other in oracle.exchanges_of(one)
                self.assertIs(lots.is_exchange_way(one, other, (one, other)), expected)

    def test_total_of_six_in_the_largest_graphs(self):
        for graph in (STAIRS, LADDER):
            run_list = oracle.all_runs(graph)
            lot = oracle.from_bag(run_list[::len(run_list) // 6][:6])
            found = lots.all_lots(graph, oracle.counts_of(graph, lot))
            way = lots.exchange_way(graph, found[0], found[-1])
            self.assertIs(lots.is_exchange_way(found[0], found[-1], way), True)
            self.assertEqual(lots.fewest_exchanges(graph, found[-1], found[0]), len(way) - 1)

    def test_unlike_counts(self):
        for one, other in ((((AC, 1),), ((AD, 1),)), ((), ((AC, 1),)), (((AC, 1), (BD, 1)), ((AC, 2), (BD, 1)))):
            self.assertIsNone(lots.fewest_exchanges(FORK, one, other))
            self.assertIsNone(lots.exchange_way(FORK, one, other))
            self.assertIs(lots.is_exchange_way(one, other, (one, other)), False)

    def test_no_runs_at_all(self):
        self.assertEqual(lots.fewest_exchanges(FORK, (), ()), 0)
        self.assertEqual(lots.exchange_way(FORK, (), ()), ((),))
        self.assertIs(lots.is_exchange_way((), (), ((),)), True)
        self.assertIs(lots.is_exchange_way((), (), ()), False)
        self.assertIs(lots.is_exchange_way((), (), ((), ())), False)

    def test_long_ways(self):
        one, other = ((AC, 1), (AD, 1), (BC, 1)), ((AC, 2), (BD, 1))
        self.assertIs(lots.is_exchange_way(one, other, (one, other) * 2000), True)
        self.assertIs(lots.is_exchange_way(one, one, (one, other) * 2000 + (one,)), True)
        self.assertIs(lots.is_exchange_way(one, other, (one, other) * 2000 + (other,)), False)

    def test_things_of_all_kinds(self):
        one, other = ((AC, 1), (AD, 1), (BC, 1)), ((AC, 2), (BD, 1))
        for ends in ((one, other), (one, one), (other, one), (other, other), ((), ())):
            for thing in list(oracle.ODD_THINGS) + oracle.twisted((one, other)) + oracle.twisted((other, one, other)):
                expected = type(thing) is tuple and len(thing) > 0 and all(oracle.is_lot(FORK, lot) for lot in thing) \
                    and (thing[0], thing[-1]) == ends \
                    and all(made in oracle.exchanges_of(lot) for lot, made in zip(thing, thing[1:]))
                self.assertIs(lots.is_exchange_way(*ends, thing), expected, thing)


class Edges(unittest.TestCase):
    def test_counts_of_zero(self):
        for graph in GRAPHS:
            zero = (0,) * len(graph)
            first, last = oracle.entry_of(graph), oracle.exit_of(graph)
            self.assertEqual(lots.live_edges(graph, zero), ())
            self.assertEqual(lots.live_runs(graph, zero), [])
            self.assertEqual(lots.ways_at(graph, zero, first), (1, 0))
            self.assertEqual(lots.ways_at(graph, zero, last), (0, 1))
            self.assertEqual(lots.open_blocks(graph, zero), ())
            self.assertEqual(lots.freedom(graph, zero), 0)
            self.assertIs(lots.is_only_lot(graph, zero), True)
            self.assertEqual(lots.only_lot(graph, zero), ())
            self.assertIsNone(lots.lots_apart(graph, zero))
            self.assertEqual(lots.how_many_lots(graph, zero), 1)
            self.assertEqual(lots.all_lots(graph, zero), [()])
            self.assertEqual(lots.nth_lot(graph, zero, 0), ())
            self.assertEqual(lots.number_of_lot(graph, ()), 0)
            self.assertEqual(lots.lots_by(graph, zero, graph[0]), ((0, 1),))
            for run in oracle.all_runs(graph):
                self.assertEqual(lots.own_edges(graph, zero, run), ())

    def test_one_edge(self):
        path = ONE_EDGE[0]
        self.assertEqual(lots.live_runs(ONE_EDGE, (GREAT,)), [path])
        self.assertEqual(lots.ways_at(ONE_EDGE, (GREAT,), "zz"), (1, 1))
        self.assertEqual(lots.own_edges(ONE_EDGE, (GREAT,), path), (path,))
        self.assertEqual(lots.only_lot(ONE_EDGE, (GREAT,)), ((path, GREAT),))
        self.assertEqual(lots.how_many_lots(ONE_EDGE, (GREAT,)), 1)
        self.assertEqual(lots.all_lots(ONE_EDGE, (8,)), [((path, 8),)])
        self.assertEqual(lots.exchange_way(ONE_EDGE, ((path, 6),), ((path, 6),)), (((path, 6),),))

    def test_sums_above_the_bound(self):
        above = tuple(number * GREAT * 3 for number in SEVEN)
        self.assertEqual(lots.how_many_lots(FORK, above), 9 * GREAT + 1)
        pair = lots.lots_apart(FORK, above)
        self.assertTrue(is_lots(FORK, above, pair[0]) and is_lots(FORK, above, pair[1]) and pair[0] != pair[1])
        self.assertEqual(lots.only_lot(SKIP, (GREAT * 2,) * 3), ((("s", "t"), GREAT * 2), (("s", "u", "t"), GREAT * 2)))

    def test_most_freedom(self):
        for graph, many in ((LADDER, 16 - 8), (STAIRS, 34 - 8), (DEEP, 1), (TWOFOLD, 4)):
            self.assertEqual(lots.freedom(graph, tuple(len([1 for run in oracle.all_runs(graph)
                                                            if edge in oracle.edges_on(run)]) for edge in graph)), many)

    def test_all_small_counts_of_one_graph(self):
        for graph in SMALL[-3:]:
            for numbers, found in oracle.lots_up_to(graph, 5).items():
                self.assertEqual(lots.all_lots(graph, numbers), sorted(found))


if __name__ == "__main__":
    unittest.main()
