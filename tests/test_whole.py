"""Promise [1], over the whole program: GRAPHS turned about, GRAPHS with EDGES split, what is known in several ways."""

import random
import unittest

from runsbehind import asked, chains, corners, counters, counts, days, graphs, hot, lots, paths, ranges, texts, wrong

from tests import oracle
from tests.oracle import DEEP, FORK, GRAPHS, LADDER, ONE_EDGE, SKIP, TWOFOLD

GREAT = 10 ** 30


def worlds(most):
    for seed, graph in enumerate(list(GRAPHS) + oracle.some_graphs("whole", 14)):
        for number in (1, most):
            yield graph, oracle.some_counts(graph, (seed, number).__repr__(), number, 5)


def some_paths(graph, seed, many, least=2):
    known = [path for path in oracle.all_paths(graph) if len(path) >= least]
    return random.Random(seed).sample(known, min(many, len(known)))


class Turned(unittest.TestCase):
    """The same numbers, each EDGE the other way about."""

    def mirror(self, graph, numbers):
        order = sorted(range(len(graph)), key=lambda at: graph[at][::-1])
        return tuple(graph[at][::-1] for at in order), tuple(numbers[at] for at in order)

    def test_graphs_and_counts(self):
        for graph, numbers in worlds(GREAT):
            mirror, same = self.mirror(graph, numbers)
            self.assertEqual(graphs.turned(graph), mirror)
            self.assertTrue(counts.is_counts(mirror, same))
            self.assertEqual(counts.total(graph, numbers), counts.total(mirror, same))
            self.assertEqual(counts.enough_runs(graph, numbers), counts.enough_runs(mirror, same))
            self.assertEqual(lots.freedom(graph, numbers), lots.freedom(mirror, same))
            self.assertEqual(hot.sure_total(graph, numbers), hot.sure_total(mirror, same))
            self.assertEqual(lots.open_blocks(graph, numbers), lots.open_blocks(mirror, same))
            self.assertEqual(counters.how_many_fewest(graph), counters.how_many_fewest(mirror))
            self.assertEqual(counters.least_places(graph), counters.least_places(mirror))
            if graphs.how_many_runs(graph) <= 40:
                self.assertEqual(asked.fewest_telling(graph), asked.fewest_telling(mirror))

    def test_paths_chains_and_corners(self):
        for graph, numbers in worlds(GREAT):
            mirror, same = self.mirror(graph, numbers)
            for path in some_paths(graph, 1, 6):
                back = path[::-1]
                self.assertEqual(paths.least_gone(graph, numbers, path), paths.least_gone(mirror, same, back))
                self.assertEqual(paths.greatest_gone(graph, numbers, path), paths.greatest_gone(mirror, same, back))
                self.assertEqual(paths.is_always_told(graph, path), paths.is_always_told(mirror, back))
                chain = tuple(oracle.edges_on(path)[::2])
                turned = tuple(edge[::-1] for edge in chain[::-1])
                for ask in (chains.least_kept, chains.most_kept):
                    self.assertEqual(ask(graph, numbers, chain, ()), ask(mirror, same, turned, ()))
            for path in some_paths(graph, 2, 4, 3):
                self.assertEqual(corners.path_span(graph, numbers, (), path),
                                 corners.path_span(mirror, same, (), path[::-1]))
                self.assertEqual(corners.widths_left(graph, numbers, path),
                                 corners.widths_left(mirror, same, path[::-1])[::-1])

    def test_ranges_and_wrong_counts(self):
        for seed, (graph, numbers) in enumerate(worlds(9)):
            chance = random.Random(seed)
            known = tuple((max(0, number - chance.randint(0, 3)), number + chance.randint(0, 3)) for number in numbers)
            mirror, same = self.mirror(graph, known)
            sharp = dict(zip(graph, ranges.sharp_ranges(graph, known)))
            for edge, pair in zip(mirror, ranges.sharp_ranges(mirror, same)):
                self.assertEqual(pair, sharp[edge[::-1]])
            for path in some_paths(graph, seed, 3):
                self.assertEqual(ranges.path_range(graph, known, path), ranges.path_range(mirror, same, path[::-1]))
            noted = tuple(number + chance.choice((0, 0, 0, 1, 5)) for number in numbers)
            mirror, same = self.mirror(graph, noted)
            self.assertEqual(wrong.least_change(graph, noted), wrong.least_change(mirror, same))
            if len(graph) < 9:
                found = sorted(tuple(sorted(edge[::-1] for edge in some)) for some in wrong.wrong_sets(mirror, same))
                self.assertEqual(wrong.wrong_sets(graph, noted), found)


class Split(unittest.TestCase):
    """A new block in the middle of an EDGE: both its EDGES have what the one had."""

    def parted(self, graph, edge, values):
        many = dict(zip(graph, values))
        made = graphs.split_edge(graph, edge, "neu")
        return made, tuple(many.get(known, many[edge]) for known in made)

    def longer(self, path, edge):
        return path[:path.index(edge[1])] + ("neu",) + path[path.index(edge[1]):] if edge in oracle.edges_on(path) else path

    def test_all(self):
        for seed, graph in enumerate((FORK, SKIP, DEEP, TWOFOLD, ONE_EDGE)):
            numbers = oracle.some_counts(graph, seed, 3, 4)
            known = tuple((max(0, number - 1), number + 2) for number in numbers)
            for edge in graph:
                made, same = self.parted(graph, edge, numbers)
                bounds = self.parted(graph, edge, known)[1]
                self.assertEqual(ranges.total_range(graph, known), ranges.total_range(made, bounds))
                sharp = self.parted(graph, edge, ranges.sharp_ranges(graph, known))[1]
                self.assertEqual(ranges.sharp_ranges(made, bounds), sharp)
                self.assertEqual(counters.fewest_counters(graph), counters.fewest_counters(made))
                self.assertEqual(asked.fewest_telling(graph), asked.fewest_telling(made))
                self.assertEqual(lots.freedom(graph, numbers), lots.freedom(made, same))
                self.check_paths(graph, numbers, known, edge, made, same, bounds)

    def check_paths(self, graph, numbers, known, edge, made, same, bounds):
        for path in oracle.all_paths(graph)[::3]:
            longer = self.longer(path, edge)
            self.assertEqual(paths.least_gone(graph, numbers, path), paths.least_gone(made, same, longer))
            self.assertEqual(ranges.path_range(graph, known, path), ranges.path_range(made, bounds, longer))
            self.assertEqual(days.excesses(graph, (numbers,), path), days.excesses(made, (same,), longer))
            if len(path) > 2:
                span = corners.path_span(graph, numbers, (), path)
                self.assertEqual(span, corners.path_span(made, same, (), longer))


class Several(unittest.TestCase):
    """What is told in one section, told again in another one."""

    def test_lots_are_told_back_by_all_ways(self):
        for seed, graph in enumerate((FORK, SKIP, DEEP, TWOFOLD, LADDER, ONE_EDGE)):
            lot = oracle.some_lot(graph, seed, GREAT, 5)
            numbers = counts.counts_of(graph, lot)
            self.assertEqual(asked.told_back(graph, numbers, lambda path: counts.goes(lot, path)), lot)
            self.assertEqual(texts.lot_in(texts.lot_text(lot)), lot)
            turns = corners.corners_of(graph, lot)
            self.assertTrue(corners.is_corners(graph, numbers, turns))
            self.assertEqual(texts.counts_in(texts.counts_text(numbers)), numbers)
            if corners.single_with(graph, numbers, turns) and corners.corners_in(graph):
                corner = corners.corners_in(graph)[0]
                times = turns[0]
                self.assertEqual(corners.lot_with(graph, numbers, turns, corner, times), lot)

    def test_one_day_one_range_and_counts_are_alike(self):
        for graph, numbers in worlds(GREAT):
            known = tuple((number, number) for number in numbers)
            for path in some_paths(graph, 3, 5):
                least, greatest = paths.least_gone(graph, numbers, path), paths.greatest_gone(graph, numbers, path)
                self.assertEqual(ranges.path_range(graph, known, path), (least, greatest))
                self.assertEqual(days.sure_by_days(graph, (numbers,), path), least)
                self.assertEqual(days.top_by_days(graph, (numbers,), path), greatest)
                self.assertEqual(days.excesses(graph, (numbers,), path), (hot.surplus(graph, numbers, path),))
                if len(path) > 2:
                    self.assertEqual(corners.path_span(graph, numbers, (), path), (least, greatest))
                if len(path) == 3:
                    self.assertEqual(corners.corner_span(graph, numbers, (), path), (least, greatest))
            self.assertEqual(wrong.nearest_counts(graph, numbers), numbers)
            self.assertEqual(wrong.misfits(graph, numbers), ())

    def test_free_edges_are_those_that_counters_tell_of(self):
        # Where all EDGES can be wrong but some, those some tell an EDGE: so just one count is right there.
        for seed, graph in enumerate((FORK, SKIP, DEEP, TWOFOLD)):
            numbers = oracle.some_counts(graph, seed, 9, 6)
            chance = random.Random(seed)
            for _ in range(8):
                kept = tuple(sorted(chance.sample(graph, chance.randint(0, len(graph)))))
                free = tuple(edge for edge in graph if edge not in kept)
                for edge in counters.told_edges(graph, (kept, ())):
                    at = graph.index(edge)
                    self.assertEqual(wrong.right_range(graph, numbers, free, edge), (numbers[at], numbers[at]))


if __name__ == "__main__":
    unittest.main()
