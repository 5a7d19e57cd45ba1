"""Promises [3] and [4]: what a GRAPH, a PATH and a RUN are, and each function of graphs.py."""

import itertools
import unittest

from runsbehind import graphs
from runsbehind.errors import Known, NoBlock, NoEdge, NoGraph, NoNumber, Twice

from tests import oracle
from tests.oracle import DEEP, FORK, GRAPHS, LADDER, ONE_EDGE, SKIP, STAIRS, TWOFOLD


def worlds():
    found = list(GRAPHS)
    for many in (2, 3, 4):
        found += oracle.small_graphs(many)
    return found + oracle.some_graphs("graphs", 40)


WORLDS = worlds()


def chain(many):
    """A GRAPH of so many EDGES in one row, with names that ascend."""
    signs = itertools.product("abcdefghijklmnopqrstuvwxyz", repeat=4)
    names = ["".join(sign) for sign in itertools.islice(signs, many + 1)]
    return tuple(zip(names, names[1:]))


class IsGraph(unittest.TestCase):
    def test_good_ones(self):
        for graph in WORLDS:
            self.assertIs(graphs.is_graph(graph), True)

    def test_names(self):
        for name in ("a", "z", "abcdefgh", "zzzzzzzz"):
            self.assertIs(graphs.is_graph((("m", name),)), True)
        for name in ("", "abcdefghi", "A", "aB", "a1", "a_", "a ", " a", "-", "`", "{", "a\n", "\u00e9", "\u0430",
                     "\uff41", "\u00aa", "\ud800", None, 1, True, ("a",), ["a"], ()):
            self.assertIs(graphs.is_graph((("m", name),)), False)
            self.assertIs(graphs.is_graph(((name, "m"),)), False)

    def test_rings(self):
        for edges in ((("a", "b"), ("b", "a")), (("a", "b"), ("b", "c"), ("c", "a")), (("a", "a"),),
                      (("a", "b"), ("b", "c"), ("c", "b"), ("c", "d")),
                      (("a", "b"), ("c", "d"), ("d", "c")), (("a", "b"), ("b", "b"), ("b", "c")),
                      (("a", "b"), ("a", "c"), ("c", "d"), ("d", "b"), ("d", "c"))):
            self.assertIs(graphs.is_graph(edges), False)

    def test_entries_and_exits(self):
        for edges in ((("a", "c"), ("b", "c")), (("a", "b"), ("a", "c")), (("a", "b"), ("c", "d"))):
            self.assertIs(graphs.is_graph(edges), False)

    def test_order_and_doubles(self):
        self.assertIs(graphs.is_graph(SKIP[::-1]), False)
        self.assertIs(graphs.is_graph(SKIP[:1] + SKIP), False)
        self.assertIs(graphs.is_graph((("s", "u"), ("s", "t"), ("u", "t"))), False)

    def test_things_of_all_kinds(self):
        for thing in oracle.ODD_THINGS:
            self.assertIs(graphs.is_graph(thing), oracle.is_graph(thing))
        for graph in (FORK, SKIP, ONE_EDGE):
            for thing in oracle.twisted(graph):
                self.assertIs(graphs.is_graph(thing), oracle.is_graph(thing), thing)

    def test_all_sets_of_edges_of_four_blocks(self):
        pairs = list(itertools.permutations("abcd", 2))
        for many in (1, 2, 3, 4, 5):
            for edges in itertools.combinations(pairs, many):
                self.assertIs(graphs.is_graph(edges), oracle.is_graph(edges), edges)

    def test_beyond_the_bounds(self):
        long = chain(30000)
        self.assertIs(graphs.is_graph(long), True)
        self.assertIs(graphs.is_graph(long[:-1] + ((long[-1][0], long[0][0]),)), False)
        wide = tuple(sorted(pair for _, name in chain(8000) for pair in ((name, "zzzzzz"), ("z", name))))
        self.assertIs(graphs.is_graph(wide), True)
        self.assertIs(graphs.is_graph(wide[1:]), False)


class PathsAndRuns(unittest.TestCase):
    def test_paths(self):
        for graph in WORLDS:
            known = set(oracle.all_paths(graph))
            names = oracle.names_of(graph) + ["nowhere"]
            for many in (0, 1, 2, 3):
                for thing in itertools.product(names, repeat=many):
                    self.assertIs(graphs.is_path(graph, thing), thing in known)
            for path in known:
                self.assertIs(graphs.is_path(graph, path), True)
                self.assertIs(graphs.is_path(graph, list(path)), False)

    def test_runs(self):
        for graph in WORLDS:
            known = oracle.all_runs(graph)
            for path in oracle.all_paths(graph):
                self.assertIs(graphs.is_run(graph, path), path in known)
            self.assertEqual(graphs.runs(graph), known)
            self.assertEqual(graphs.how_many_runs(graph), len(known))

    def test_things_of_all_kinds(self):
        for graph in (FORK, SKIP, (("a", "b"),), (("s", "t"),)):
            paths, run_list = oracle.all_paths(graph), oracle.all_runs(graph)
            things = list(oracle.ODD_THINGS)
            for path in paths:
                things += oracle.twisted(path)
            for thing in things:
                is_tuple = type(thing) is tuple
                self.assertIs(graphs.is_path(graph, thing), is_tuple and thing in paths)
                self.assertIs(graphs.is_run(graph, thing), is_tuple and thing in run_list)

    def test_numbers_of_runs(self):
        for graph in WORLDS:
            known = oracle.all_runs(graph)
            for number, run in enumerate(known):
                self.assertEqual(graphs.nth_run(graph, number), run)
                self.assertEqual(graphs.number_of_run(graph, run), number)
            for number in (-1, -len(known), len(known), len(known) + 1, 10 ** 30, -10 ** 30):
                with self.assertRaises(NoNumber) as caught:
                    graphs.nth_run(graph, number)
                self.assertEqual(caught.exception.number, number)

    def test_runs_along(self):
        for graph in WORLDS:
            known = oracle.all_runs(graph)
            for path in oracle.all_paths(graph):
                expected = tuple(at for at, run in enumerate(known) if oracle.holds(run, path))
                self.assertEqual(graphs.runs_along(graph, path), expected)

    def test_blocks_that_stand_apart_are_no_path_of_a_run(self):
        self.assertEqual(graphs.runs_along(SKIP, ("s", "t")), (0,))
        self.assertEqual(graphs.runs(SKIP)[1], ("s", "u", "t"))

    def test_many_runs(self):
        rungs = []
        for at in range(20):
            low, high = chr(97 + at), chr(98 + at)
            rungs += [(low, high), (low, low + "x"), (low + "x", high)]
        graph = tuple(sorted(rungs))
        self.assertEqual(graphs.how_many_runs(graph), 2 ** 20)
        for number in (0, 1, 77777, 2 ** 20 - 1):
            self.assertEqual(graphs.number_of_run(graph, graphs.nth_run(graph, number)), number)
        with self.assertRaises(NoNumber):
            graphs.nth_run(graph, 2 ** 20)


class Blocks(unittest.TestCase):
    def test_blocks(self):
        for graph in WORLDS:
            names = oracle.names_of(graph)
            self.assertEqual(graphs.blocks(graph), tuple(names))
            self.assertEqual(graphs.entry_of(graph), oracle.entry_of(graph))
            self.assertEqual(graphs.exit_of(graph), oracle.exit_of(graph))
            for name in names:
                self.assertEqual(graphs.edges_to(graph, name), tuple(edge for edge in graph if edge[1] == name))
                self.assertEqual(graphs.edges_from(graph, name), tuple(edge for edge in graph if edge[0] == name))

    def test_leads_and_between(self):
        for graph in WORLDS:
            paths = oracle.all_paths(graph)
            for one, other in itertools.product(oracle.names_of(graph), repeat=2):
                ways = [path for path in paths if path[0] == one and path[-1] == other]
                self.assertIs(graphs.leads(graph, one, other), bool(ways))
                self.assertEqual(graphs.how_many_ways(graph, one, other), len(ways))
                on_ways = tuple(sorted({name for way in ways for name in way}))
                self.assertEqual(graphs.between(graph, one, other), on_ways)

    def test_in_order(self):
        for graph in (SKIP, ONE_EDGE, FORK) + tuple(oracle.small_graphs(4)):
            names = oracle.names_of(graph)
            orders = [order for order in itertools.permutations(names)
                      if all(order.index(begin) < order.index(end) for begin, end in graph)]
            self.assertEqual(graphs.in_order(graph), min(orders))

    def test_in_order_takes_the_least_that_can_be_next(self):
        for graph in WORLDS:
            order, done = graphs.in_order(graph), []
            self.assertEqual(sorted(order), oracle.names_of(graph))
            for name in order:
                ready = [other for other in order if other not in done
                         and all(begin in done for begin, end in graph if end == other)]
                self.assertEqual(name, min(ready))
                done.append(name)

    def test_no_block(self):
        for bad in ("x1", "", "nowhere", "S", " s", "s ", "st"):
            for function in (graphs.edges_to, graphs.edges_from, graphs.shut):
                with self.assertRaises(NoBlock) as caught:
                    function(FORK, bad)
                self.assertEqual(caught.exception.block, bad)
            for function in (graphs.leads, graphs.between, graphs.how_many_ways):
                for one, other in ((bad, "s"), ("s", bad), (bad, bad), (bad, bad + "y")):
                    with self.assertRaises(NoBlock) as caught:
                        function(FORK, one, other)
                    self.assertEqual(caught.exception.block, bad)


class Made(unittest.TestCase):
    def names_for(self, graph):
        return oracle.names_of(graph) + ["neu"]

    def test_with_edge(self):
        for graph in WORLDS:
            for edge in itertools.product(self.names_for(graph), repeat=2):
                expected = tuple(sorted(graph + (edge,)))
                if edge in graph:
                    with self.assertRaises(Known) as caught:
                        graphs.with_edge(graph, edge)
                    self.assertEqual(caught.exception.edge, edge)
                elif oracle.is_graph(expected):
                    self.assertEqual(graphs.with_edge(graph, edge), expected)
                else:
                    self.assertRaises(NoGraph, graphs.with_edge, graph, edge)

    def test_without_edge(self):
        for graph in WORLDS:
            for edge in itertools.product(self.names_for(graph), repeat=2):
                expected = tuple(known for known in graph if known != edge)
                if edge not in graph:
                    with self.assertRaises(NoEdge) as caught:
                        graphs.without_edge(graph, edge)
                    self.assertEqual(caught.exception.edge, edge)
                elif oracle.is_graph(expected):
                    self.assertEqual(graphs.without_edge(graph, edge), expected)
                else:
                    self.assertRaises(NoGraph, graphs.without_edge, graph, edge)

    def test_split_edge(self):
        for graph in WORLDS:
            for begin, end in itertools.product(self.names_for(graph), repeat=2):
                for name in ("a", "neu", "zzzzzzzz", oracle.entry_of(graph), oracle.exit_of(graph)):
                    self.check_split(graph, (begin, end), name)

    def check_split(self, graph, edge, name):
        if edge not in graph:
            with self.assertRaises(NoEdge) as caught:
                graphs.split_edge(graph, edge, name)
            self.assertEqual(caught.exception.edge, edge)
        elif name in oracle.names_of(graph):
            with self.assertRaises(Twice) as caught:
                graphs.split_edge(graph, edge, name)
            self.assertEqual(caught.exception.name, name)
        else:
            kept = [known for known in graph if known != edge]
            expected = tuple(sorted(kept + [(edge[0], name), (name, edge[1])]))
            self.assertEqual(graphs.split_edge(graph, edge, name), expected)

    def test_shut(self):
        for graph in WORLDS:
            for name in oracle.names_of(graph):
                left = {edge for run in oracle.all_runs(graph) if name not in run for edge in oracle.edges_on(run)}
                if left:
                    self.assertEqual(graphs.shut(graph, name), tuple(sorted(left)))
                    self.assertIs(graphs.is_graph(graphs.shut(graph, name)), True)
                else:
                    self.assertRaises(NoGraph, graphs.shut, graph, name)

    def test_entry_and_exit_cannot_be_shut(self):
        for graph in WORLDS:
            self.assertRaises(NoGraph, graphs.shut, graph, oracle.entry_of(graph))
            self.assertRaises(NoGraph, graphs.shut, graph, oracle.exit_of(graph))

    def test_turned(self):
        for graph in WORLDS:
            self.assertEqual(graphs.turned(graph), tuple(sorted((end, begin) for begin, end in graph)))
            self.assertEqual(graphs.turned(graphs.turned(graph)), graph)

    def test_errors_keep_tuples(self):
        for function, error, edge in ((graphs.with_edge, Known, ["s", "t"]), (graphs.without_edge, NoEdge, ["t", "s"])):
            with self.assertRaises(error) as caught:
                function([["s", "t"], ["s", "u"], ["u", "t"]], edge)
            self.assertEqual(repr(caught.exception.edge), repr(tuple(edge)))
        with self.assertRaises(NoEdge) as caught:
            graphs.split_edge(SKIP, ["t", "s"], "s")
        self.assertEqual(repr(caught.exception.edge), "('t', 's')")

    def test_made_ones_can_be_handed_in_again(self):
        graph = graphs.split_edge(graphs.with_edge(DEEP, ("x", "y")), ("x", "y"), "neu")
        self.assertEqual(graphs.how_many_runs(graph), len(oracle.all_runs(graph)))
        self.assertEqual(graphs.shut(graph, "neu"), DEEP)


class Bounds(unittest.TestCase):
    def test_largest(self):
        for graph in (LADDER, STAIRS):
            self.assertEqual((len(graphs.blocks(graph)), len(graph)), (10, 16))
        self.assertEqual(graphs.how_many_runs(LADDER), 16)
        self.assertEqual(graphs.entry_of(LADDER), "q")
        self.assertEqual(graphs.exit_of(LADDER), "d")
        self.assertEqual(graphs.how_many_runs(TWOFOLD), 8)

    def test_one_edge(self):
        self.assertEqual(graphs.runs(ONE_EDGE), [("zz", "aaaaaaaa")])
        self.assertEqual(graphs.in_order(ONE_EDGE), ("zz", "aaaaaaaa"))
        self.assertEqual(graphs.between(ONE_EDGE, "zz", "aaaaaaaa"), ("aaaaaaaa", "zz"))
        self.assertRaises(NoGraph, graphs.without_edge, ONE_EDGE, ONE_EDGE[0])
        self.assertRaises(NoGraph, graphs.with_edge, ONE_EDGE, ("zz", "zz"))


if __name__ == "__main__":
    unittest.main()
