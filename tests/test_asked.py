"""Promise [15]: each function of asked.py, compared with all sets of PATHS, all LOTS, all ways to ask."""

import itertools
import random
import unittest

from runsbehind import asked
from runsbehind.errors import NoLot, Unfit

from tests import oracle
from tests.oracle import DEEP, FORK, GRAPHS, LADDER, ONE_EDGE, SKIP, STAIRS, TWOFOLD
from tests.test_counters import CROSS
from tests.test_counts import SMALL

GREAT = 10 ** 30
SEVEN = (7, 3, 6, 4, 6, 4, 7, 3)
STRAIGHT = ((("s", "a", "m", "c", "t"), 1), (("s", "b", "m", "d", "t"), 1))
CROSSED = ((("s", "a", "m", "d", "t"), 1), (("s", "b", "m", "c", "t"), 1))
# Three ways, three times over, and a way past two of them: 30 RUNS; 10 blocks and 16 EDGES.
THIRTY = tuple(sorted([("a", "b"), ("a", "c"), ("b", "d"), ("c", "d"), ("a", "d"), ("d", "e"), ("d", "f"), ("e", "g"),
                      ("f", "g"), ("d", "g"), ("g", "h"), ("g", "i"), ("h", "j"), ("i", "j"), ("g", "j"), ("a", "g")]))

# Three ways to a block, three from it.
WIDE = tuple(sorted([(one, "m") for one in "abc"] + [("s", one) for one in "abc"]
                    + [("m", one) for one in "xyz"] + [(one, "t") for one in "xyz"]))


def rows(graph, paths):
    """What each EDGE and each PATH tells of each RUN."""
    return [[int(oracle.holds(run, path)) for run in oracle.all_runs(graph)] for path in tuple(graph) + tuple(paths)]


def tells_all(graph, paths):
    return oracle.rank(rows(graph, paths)) == len(oracle.all_runs(graph))


def some_sets(graph, seed, many):
    """So many sets of PATHS, always the same ones for a seed, the one of none and that of all RUNS among them."""
    chance = random.Random(seed)
    known = oracle.all_paths(graph)
    found = [(), tuple(oracle.all_runs(graph))]
    for _ in range(many):
        found.append(tuple(sorted(chance.sample(known, chance.randint(0, min(len(known), 9))))))
    return found


def is_parting(graph, paths, thing):
    if type(thing) is not tuple or len(thing) != 2 or not all(oracle.is_lot(graph, part) for part in thing):
        return False
    one, other = thing
    if one == other or oracle.counts_of(graph, one) != oracle.counts_of(graph, other):
        return False
    return all(oracle.goes(one, path) == oracle.goes(other, path) for path in paths)


GRAPHS_TOLD = SMALL + [SKIP, ONE_EDGE, FORK, DEEP, CROSS] + list(oracle.small_graphs(5))[::25]
GREATS = [TWOFOLD, LADDER, STAIRS, THIRTY] + [graph for graph in oracle.some_graphs("asked", 16)
                                             if len(oracle.all_runs(graph)) <= 40]


class Tell(unittest.TestCase):
    def test_tells_all(self):
        both = set()
        for seed, graph in enumerate(GRAPHS_TOLD + GREATS):
            for paths in some_sets(graph, seed, 6):
                expected = tells_all(graph, paths)
                both.add((expected, len(oracle.all_runs(graph)) > 8))
                self.assertIs(asked.tells_all(graph, paths), expected)
                pair = asked.parting_lots(graph, paths)
                if expected:
                    self.assertIsNone(pair)
                else:
                    self.assertTrue(is_parting(graph, paths, pair))
                    self.assertIs(asked.is_parting_lots(graph, paths, pair), True)
                    self.assertIs(asked.is_parting_lots(graph, paths, pair[::-1]), True)
        self.assertEqual(len(both), 4)

    def test_lots_that_are_parted_by_several_runs_at_once(self):
        # Of many sets of long PATHS a few leave only such LOTS that some numbers in them must be 2.
        twos = 0
        for graph in (TWOFOLD, THIRTY, STAIRS):
            chance = random.Random("several")
            known = [path for path in oracle.all_paths(graph) if len(path) > 2]
            for _ in range(150):
                paths = tuple(sorted(chance.sample(known, asked.fewest_telling(graph) - 1)))
                pair = asked.parting_lots(graph, paths)
                self.assertTrue(is_parting(graph, paths, pair))
                twos += max(number for lot in pair for _, number in lot) > 1
        self.assertGreater(twos, 0)

    def test_no_two_lots_answer_alike(self):
        for graph, most in [(graph, 4) for graph in SMALL + [SKIP, FORK]] + [(DEEP, 3), (TWOFOLD, 2)]:
            table = oracle.lots_up_to(graph, most)
            for paths in some_sets(graph, most, 8):
                alike = self.alike(table, paths)
                if asked.tells_all(graph, paths):
                    self.assertFalse(alike)
                for pair in alike[:9]:
                    self.assertIs(asked.is_parting_lots(graph, paths, pair), True)

    def alike(self, table, paths):
        """Pairs of unlike LOTS with the same COUNTS that go all PATHS alike often."""
        found = []
        for lots in table.values():
            groups = {}
            for lot in lots:
                groups.setdefault(tuple(oracle.goes(lot, path) for path in paths), []).append(lot)
            found += [pair for group in groups.values() for pair in itertools.combinations(group, 2)]
        return found

    def test_fewest_against_all_sets_of_paths(self):
        for graph in SMALL + [SKIP, ONE_EDGE, FORK]:
            known, fewest = oracle.all_paths(graph), asked.fewest_telling(graph)
            for many in range(fewest + 1):
                sets = list(itertools.combinations(known, many))
                telling = [paths for paths in sets if tells_all(graph, paths)]
                self.assertEqual(bool(telling), many == fewest)
            self.assertIn(asked.telling_paths(graph), telling)
            for paths in sets[::7] + telling[:20]:
                self.assertIs(asked.is_telling_paths(graph, paths), paths in telling)
                self.assertIs(asked.is_telling_paths(graph, list(paths)), False)
                self.assertIs(asked.is_telling_paths(graph, paths[::-1]), len(paths) < 2 and paths in telling)
                self.assertIs(asked.is_telling_paths(graph, paths + paths[-1:]), fewest == 0)
                more = tuple(sorted(set(paths + (known[0], known[-1]))))
                self.assertIs(asked.is_telling_paths(graph, more), len(more) == fewest and more in telling)

    def test_fewest_of_great_ones(self):
        for graph in GREATS + GRAPHS_TOLD:
            fewest = len(oracle.all_runs(graph)) - oracle.rank(rows(graph, ()))
            self.assertEqual(fewest, len(oracle.all_runs(graph)) + len(oracle.names_of(graph)) - 2 - len(graph))
            self.assertEqual(asked.fewest_telling(graph), fewest)
            paths = asked.telling_paths(graph)
            self.assertTrue(type(paths) is tuple and list(paths) == sorted(set(paths)) and len(paths) == fewest)
            self.assertLessEqual(set(paths), set(oracle.all_paths(graph)))
            self.assertTrue(tells_all(graph, paths))
            self.assertIs(asked.is_telling_paths(graph, paths), True)
            if fewest:
                self.assertIs(asked.tells_all(graph, paths[1:]), False)
                self.assertIs(asked.is_telling_paths(graph, paths[1:]), False)
                self.assertTrue(is_parting(graph, paths[1:], asked.parting_lots(graph, paths[1:])))

    def test_things_of_all_kinds(self):
        for graph, paths in ((FORK, (("a", "m", "c"),)), (SKIP, ()), (TWOFOLD, asked.telling_paths(TWOFOLD))):
            for thing in [paths] + oracle.twisted(paths)[:400] + list(oracle.ODD_THINGS):
                expected = (oracle.is_set_of(oracle.all_paths(graph), thing)
                            and len(thing) == asked.fewest_telling(graph) and tells_all(graph, thing))
                self.assertIs(asked.is_telling_paths(graph, thing), expected, thing)

    def test_parting_things_of_all_kinds(self):
        pair = (STRAIGHT, CROSSED)
        for paths in ((), (("a", "m", "c"),), (("s", "a", "m"), ("m", "c"))):
            for thing in [pair, pair[::-1], (STRAIGHT, STRAIGHT), ((), ())] + oracle.twisted(pair)[::3]:
                self.assertIs(asked.is_parting_lots(FORK, paths, thing), is_parting(FORK, paths, thing), thing)
            for thing in oracle.ODD_THINGS:
                for other in (thing, (thing, thing), (STRAIGHT, thing), (thing, CROSSED)):
                    self.assertIs(asked.is_parting_lots(FORK, paths, other), is_parting(FORK, paths, other), other)


class Told(unittest.TestCase):
    def test_lot_told(self):
        for seed, graph in enumerate(GRAPHS_TOLD + GREATS):
            for most, many in ((2, 3), (GREAT, 40)):
                lot = oracle.some_lot(graph, seed, most, many)
                for paths in some_sets(graph, seed, 4) + [asked.telling_paths(graph)]:
                    answers = tuple((path, oracle.goes(lot, path)) for path in paths)
                    numbers = oracle.counts_of(graph, lot)
                    if tells_all(graph, paths):
                        self.assertEqual(asked.lot_told(graph, numbers, answers), lot)
                    else:
                        self.assertRaises(Unfit, asked.lot_told, graph, numbers, answers)

    def test_answers_that_no_lot_gives(self):
        for graph, most in ((FORK, 4), (SKIP, 4), (DEEP, 3), (TWOFOLD, 2), (CROSS, 3)):
            table = oracle.lots_up_to(graph, most)
            chance = random.Random(most)
            sets = [paths for paths in some_sets(graph, 7, 30) if tells_all(graph, paths)]
            for numbers in sorted(table)[::3]:
                for paths in sets[:4] + [asked.telling_paths(graph)]:
                    told = {tuple(oracle.goes(lot, path) for path in paths): lot for lot in table[numbers]}
                    tried = [tuple(chance.randint(0, 2) for _ in paths) for _ in range(6)] + sorted(told)[:3]
                    for worths in tried:
                        self.check(graph, numbers, tuple(zip(paths, worths)), told.get(worths))

    def check(self, graph, numbers, answers, lot):
        if lot is not None:
            self.assertEqual(asked.lot_told(graph, numbers, answers), lot)
        else:
            self.assertRaises(NoLot, asked.lot_told, graph, numbers, answers)

    def test_halves_are_no_lot(self):
        # What twice the answers tell has odd numbers: so there is no LOT that gives the answers themselves.
        paths = (("a", "m", "d", "n", "e"), ("b", "m", "c", "n", "e", "t"), ("s", "a", "m", "c", "n", "f"),
                 ("s", "b", "m", "d", "n", "f", "t"))
        self.assertIs(asked.is_telling_paths(TWOFOLD, paths), True)
        table, halves = rows(TWOFOLD, paths), 0
        for marks in itertools.product((0, 1), repeat=8):
            sums = [sum(part * own for part, own in zip(row, marks)) for row in table]
            if any(marks) and not any(number & 1 for number in sums):
                halves += 1
                numbers = tuple(number // 2 for number in sums[:12])
                answers = tuple((path, number // 2) for path, number in zip(paths, sums[12:]))
                self.assertRaises(NoLot, asked.lot_told, TWOFOLD, numbers, answers)
                twice = tuple((path, 2 * number) for path, number in answers)
                lot = tuple((run, 1) for run, mark in zip(oracle.all_runs(TWOFOLD), marks) if mark)
                self.assertEqual(asked.lot_told(TWOFOLD, tuple(2 * number for number in numbers), twice), lot)
        self.assertGreater(halves, 0)

    def test_errors_and_their_order(self):
        path = ("a", "m", "c")
        for answers in ((), ((("s", "a"), 100),), ((("m", "c"), 6), (("s", "a", "m"), 7))):
            with self.assertRaises(Unfit) as caught:
                asked.lot_told(FORK, SEVEN, answers)
            self.assertEqual(vars(caught.exception), {})
        for number in (2, 7, 0, GREAT):
            self.assertRaises(NoLot, asked.lot_told, FORK, SEVEN, ((path, number),))
        for number in (3, 4, 5, 6):
            lot = asked.lot_told(FORK, SEVEN, ((path, number),))
            self.assertTrue(oracle.is_lot(FORK, lot) and oracle.goes(lot, path) == number)
            # What is told beside it must fit, too.
            more = tuple(sorted(((path, number), (("b", "m", "c"), 6 - number))))
            self.assertEqual(asked.lot_told(FORK, SEVEN, more), lot)
            more = tuple(sorted(((path, number), (("b", "m", "c"), 7 - number))))
            self.assertRaises(NoLot, asked.lot_told, FORK, SEVEN, more)
            self.assertRaises(NoLot, asked.lot_told, FORK, SEVEN, ((path, number), (("m", "c"), 5)))
        self.assertEqual(asked.lot_told(SKIP, (2, 3, 3), ()), ((("s", "t"), 2), (("s", "u", "t"), 3)))
        self.assertEqual(asked.lot_told(FORK, (0,) * 8, ((path, 0),)), ())
        self.assertRaises(NoLot, asked.lot_told, FORK, (0,) * 8, ((path, 1),))


class Back(unittest.TestCase):
    def test_told_back(self):
        for seed, graph in enumerate(GRAPHS_TOLD + GREATS):
            for most, many in ((1, 2), (3, 9), (GREAT, 40), (1, 0)):
                lot = oracle.some_lot(graph, seed, most, many)
                calls = []

                def asker(path):
                    calls.append(path)
                    return oracle.goes(lot, path)
                for form in (graph, oracle.as_lists(graph)):
                    calls.clear()
                    self.assertEqual(asked.told_back(form, oracle.counts_of(graph, lot), asker), lot)
                    self.assertLessEqual(len(calls), asked.fewest_telling(graph))
                    self.assertLessEqual(set(calls), set(oracle.all_paths(graph)))
                    self.assertTrue(all(type(path) is tuple for path in calls))

    def test_asker_by_name_and_of_other_kinds(self):
        class Asker:
            def __call__(self, path):
                return oracle.goes(CROSSED, path)
        self.assertEqual(asked.told_back(graph=FORK, counts=[1] * 8, asker=Asker()), CROSSED)
        self.assertEqual(asked.told_back(asker=lambda path: oracle.goes(STRAIGHT, path), counts=(1,) * 8, graph=FORK),
                         STRAIGHT)
        self.assertEqual(asked.told_back(SKIP, (2, 3, 3), None), ((("s", "t"), 2), (("s", "u", "t"), 3)))

    def test_what_the_asker_raises_is_passed_on(self):
        for error in (KeyError("x"), ValueError("x"), NoLot(), Unfit(), LookupError(), ZeroDivisionError(), StopIteration()):
            calls = []

            def asker(path):
                calls.append(path)
                if len(calls) == 2:
                    raise error
                return 1
            with self.assertRaises(type(error)) as caught:
                asked.told_back(TWOFOLD, (2,) * 12, asker)
            self.assertIs(caught.exception, error)
            self.assertEqual(len(calls), 2)


def few_worlds():
    """GRAPHS with COUNTS of a TOTAL of at most 6 that at most 12 LOTS have."""
    for graph, most in [(FORK, 6), (DEEP, 4), (TWOFOLD, 3), (CROSS, 4), (SKIP, 6), (SMALL[-1], 5), (ONE_EDGE, 6)]:
        table = oracle.lots_up_to(graph, most)
        fitting = sorted([numbers for numbers in table if len(table[numbers]) <= 12],
                         key=lambda numbers: (-len(table[numbers]), numbers))
        for numbers in fitting[:4] + fitting[4::max(1, len(fitting) // 6)]:
            yield graph, numbers, sorted(table[numbers])
    yield TWOFOLD, (1,) * 12, oracle.all_lots(TWOFOLD, (1,) * 12)
    for graph, seed in ((TWOFOLD, 101), (LADDER, 4), (WIDE, 32), (WIDE, 247), (STAIRS, 22), (THIRTY, 201), (THIRTY, 77)):
        numbers = oracle.some_counts(graph, seed, 3, 1 + seed % 5)
        yield graph, numbers, oracle.all_lots(graph, numbers)


FEWS = list(few_worlds())


class Few(unittest.TestCase):
    def some_answers(self, graph, lots, seed):
        chance = random.Random(seed)
        lot = chance.choice(lots)
        yield ()
        for many in (1, 1, 2):
            paths = sorted(chance.sample(oracle.all_paths(graph), min(many, len(oracle.all_paths(graph)))))
            yield tuple((path, oracle.goes(lot, path)) for path in paths)
            yield tuple((path, chance.randint(0, 2)) for path in paths)

    def test_against_all_lots(self):
        sizes = set()
        for seed, (graph, numbers, lots) in enumerate(FEWS):
            for answers in self.some_answers(graph, lots, seed):
                left = [lot for lot in lots if all(oracle.goes(lot, path) == number for path, number in answers)]
                sizes.add(len(left))
                self.assertEqual(asked.lots_left(graph, numbers, answers), left)
                worths = {}
                for path in oracle.all_paths(graph):
                    gone = [oracle.goes(lot, path) for lot in left]
                    parts = tuple(sorted((number, gone.count(number)) for number in set(gone)))
                    worths[path] = max(gone.count(number) for number in gone) if gone else 0
                    if len(path) == 3 or path == oracle.all_paths(graph)[seed % len(worths)]:
                        self.assertEqual(asked.parts_by(graph, numbers, answers, path), parts)
                best = min(worths, key=lambda path: (worths[path], path)) if len(left) > 1 else None
                self.assertEqual(asked.best_ask(graph, numbers, answers), best)
                self.assertEqual(asked.fewest_asks(graph, numbers, answers), self.fewest(graph, left))
        self.assertLessEqual({0, 1, 2, 3, 4, 10, 11, 12}, sizes)

    def fewest(self, graph, lots):
        """How few asks are enough at the most, by going through all ways to ask."""
        columns = {tuple(oracle.goes(lot, path) for lot in lots) for path in oracle.all_paths(graph)}
        ways = {}
        for column in columns:
            groups = {}
            for at, number in enumerate(column):
                groups.setdefault(number, set()).add(at)
            ways[frozenset(frozenset(group) for group in groups.values())] = True
        found = {}

        def least(group):
            if len(group) < 2:
                return 0
            if group not in found:
                tried = [[group & part for part in way] for way in ways]
                found[group] = 1 + min(max(least(part) for part in parts) for parts in tried if group not in parts)
            return found[group]
        return least(frozenset(range(len(lots))))

    def test_several_asks(self):
        most = [asked.fewest_asks(graph, numbers, ()) for graph, numbers, _ in FEWS]
        self.assertLessEqual({0, 1, 2, 3, 4}, set(most))
        self.assertEqual(asked.fewest_asks(TWOFOLD, (1,) * 12, ()), 2)
        self.assertEqual(asked.fewest_asks(FORK, (2, 1, 2, 1, 2, 1, 2, 1), ((("a", "m", "c"), 5),)), 0)
        self.assertIsNone(asked.best_ask(FORK, (2, 1, 2, 1, 2, 1, 2, 1), ((("a", "m", "c"), 5),)))
        self.assertEqual(asked.parts_by(FORK, (2, 1, 2, 1, 2, 1, 2, 1), ((("a", "m", "c"), 5),), ("s", "a")), ())

    def test_asking_the_best_way_is_enough(self):
        for graph, numbers, lots in FEWS:
            for lot in lots:
                answers, asks = {}, 0
                while len(asked.lots_left(graph, numbers, tuple(sorted(answers.items())))) > 1:
                    path = asked.best_ask(graph, numbers, tuple(sorted(answers.items())))
                    answers[path] = oracle.goes(lot, path)
                    asks += 1
                self.assertEqual(asked.lots_left(graph, numbers, tuple(sorted(answers.items()))), [lot])
                self.assertLessEqual(asks, len(lots) - 1)


if __name__ == "__main__":
    unittest.main()
