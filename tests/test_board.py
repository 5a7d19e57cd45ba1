"""Promise [16]: a Board beside a board that is kept the long way, and beside the functions of sections 4 to 9."""

import copy
import inspect
import random
import unittest
from unittest import mock

from runsbehind import counts, graphs, lots, paths
from runsbehind.board import Board
from runsbehind.errors import Known, NoBlock, NoCounts, NoEdge, NoGraph, NothingDone, Twice, Unfit

from tests import oracle, oracle_bounds
from tests.oracle import DEEP, FORK, GRAPHS, LADDER, ONE_EDGE, SKIP, STAIRS, TWOFOLD

GREAT = 10 ** 30
METHODS = {"graph": [], "counts": [], "total": [], "count": ["edge"], "through": ["block"], "least": ["path"],
           "greatest": ["path"], "sure": [], "is_only": [], "ran": ["path", "number"], "add": ["numbers"], "forget": [],
           "link": ["edge"], "drop": ["edge"], "split": ["edge", "name"], "undo": [], "twin": []}


class Kept:
    """A board kept the long way: what the document says of each deed, word by word."""

    def __init__(self, graph):
        self.graph, self.counts, self.past = graph, (0,) * len(graph), []

    def do(self, deed, *values):
        """The deed is done; returns the error that it raises, or None."""
        state = (self.graph, self.counts)
        error = getattr(self, deed)(*values)
        if error is None and deed != "undo":
            self.past.append(state)
        return error

    def ran(self, path, number):
        if path not in oracle.all_runs(self.graph):
            return Unfit()
        self.counts = tuple(count + number * (edge in oracle.edges_on(path))
                            for edge, count in zip(self.graph, self.counts))

    def add(self, numbers):
        if not oracle.is_counts(self.graph, numbers):
            return NoCounts()
        self.counts = oracle_bounds.sums((self.counts, numbers))

    def forget(self):
        self.counts = (0,) * len(self.graph)

    def link(self, edge):
        if edge in self.graph:
            return Known(edge)
        return self.become({**self.many(), edge: 0}, Unfit)

    def drop(self, edge):
        many = self.many()
        if edge not in many:
            return NoEdge(edge)
        if many.pop(edge) > 0:
            return Unfit()
        return self.become(many, None)

    def split(self, edge, name):
        many = self.many()
        if edge not in many:
            return NoEdge(edge)
        if name in oracle.names_of(self.graph):
            return Twice(name)
        number = many.pop(edge)
        return self.become({**many, (edge[0], name): number, (name, edge[1]): number}, None)

    def become(self, many, unfit):
        made = tuple(sorted(many))
        if not oracle.is_graph(made):
            return NoGraph()
        numbers = tuple(many[edge] for edge in made)
        if unfit is not None and not oracle.is_counts(made, numbers):
            return unfit()
        self.graph, self.counts = made, numbers

    def undo(self):
        if not self.past:
            return NothingDone()
        self.graph, self.counts = self.past.pop()

    def many(self):
        return dict(zip(self.graph, self.counts))


def random_deed(kept, chance):
    """A deed that fits often, but not always."""
    names = oracle.names_of(kept.graph)
    pair = (chance.choice(names + ["new", "z"]), chance.choice(names + ["new", "z"]))
    edge = chance.choice(kept.graph)
    kind = chance.choice(("ran", "ran", "ran", "add", "forget", "link", "link", "drop", "drop", "split", "undo", "odd"))
    if kind == "ran":
        return "ran", chance.choice(oracle.all_runs(kept.graph)), chance.choice((0, 1, 5, GREAT))
    if kind == "add":
        numbers = oracle.some_counts(kept.graph, chance.random(), 5, 3)
        return "add", chance.choice((numbers, numbers, numbers[1:], (1,) + numbers[1:]))
    if kind == "link":
        return ("link", pair) if len(kept.graph) < 16 and len(names) < 10 else ("forget",)
    if kind == "drop":
        return "drop", chance.choice((edge, edge, pair))
    if kind == "split":
        fits = len(kept.graph) < 16 and len(names) < 10
        return ("split", chance.choice((edge, edge, pair)), chance.choice(names + ["p", "q", "n"])) if fits else ("undo",)
    if kind == "odd":
        return chance.choice((("ran", tuple(names), 1), ("ran", edge, 1), ("ran", (), 1), ("add", ()), ("undo",)))
    return (kind,)


def told(function, *values):
    try:
        return function(*values)
    except (Known, NoBlock, NoCounts, NoEdge, NoGraph, NothingDone, Twice, Unfit) as error:
        return type(error), vars(error)


class Deeds(unittest.TestCase):
    def test_many_deeds_beside_a_board_kept_the_long_way(self):
        seen = set()
        for seed, graph in enumerate(list(GRAPHS) * 3 + oracle.some_graphs("board", 20)):
            chance = random.Random(seed)
            board, kept = Board(oracle.as_lists(graph) if seed & 1 else graph), Kept(graph)
            for turn in range(60):
                deed, *values = random_deed(kept, chance)
                if turn & 1:
                    found = told(getattr(board, deed), *oracle.as_lists(values))
                else:
                    found = told(getattr(board, deed), *values)
                error = kept.do(deed, *values)
                self.assertEqual(found, None if error is None else (type(error), vars(error)), (deed, values))
                seen.add((deed, type(error)))
                self.compare(board, kept)
        self.assertLessEqual({("ran", Unfit), ("add", NoCounts), ("link", Known), ("link", NoGraph), ("link", Unfit),
                              ("drop", NoEdge), ("drop", Unfit), ("drop", NoGraph), ("split", NoEdge),
                              ("split", Twice), ("undo", NothingDone)}, seen)
        self.assertLessEqual({(deed, type(None)) for deed in METHODS if deed in vars(Kept)
                              and deed not in ("graph", "counts")}, seen)

    def compare(self, board, kept):
        graph, numbers = kept.graph, kept.counts
        self.assertEqual((board.graph(), board.counts(), len(board)), (graph, numbers, len(kept.past)))
        self.assertTrue(type(board.graph()) is tuple and all(type(edge) is tuple for edge in board.graph()))
        self.assertEqual(board.total(), oracle.flows_out(graph, numbers, oracle.entry_of(graph)))
        self.assertEqual(board.total(), counts.total(graph, numbers))

    def test_looks_behind_each_deed(self):
        for seed, graph in enumerate(list(GRAPHS) + oracle.some_graphs("looks", 8)):
            chance = random.Random(seed)
            board, kept = Board(graph), Kept(graph)
            for _ in range(25):
                deed, *values = random_deed(kept, chance)
                told(getattr(board, deed), *values)
                kept.do(deed, *values)
                self.look(board, kept.graph, kept.counts, chance)

    def look(self, board, graph, numbers, chance):
        """Each look, beside what the functions of sections 4 to 9 tell, and what they come to the long way."""
        for edge, number in zip(graph, numbers):
            self.assertEqual(board.count(edge), number)
            self.assertEqual(board.count(list(edge)), number)
        for name in oracle.names_of(graph):
            passed = max(oracle.flows_in(graph, numbers, name), oracle.flows_out(graph, numbers, name))
            self.assertEqual(board.through(name), passed)
            self.assertEqual(board.through(name), counts.through(graph, numbers, name))
        known = oracle.all_paths(graph)
        for path in chance.sample(known, min(5, len(known))):
            least = max(0, oracle.surplus(graph, numbers, path))
            greatest = min(oracle.sum_of(graph, numbers, (edge,)) for edge in oracle.edges_on(path))
            self.assertEqual((board.least(path), board.greatest(path)), (least, greatest))
            self.assertEqual((board.least(list(path)), board.greatest(list(path))), (least, greatest))
            self.assertEqual(paths.least_gone(graph, numbers, path), least)
        sure = [(run, max(0, oracle.surplus(graph, numbers, run))) for run in oracle.all_runs(graph)]
        self.assertEqual(board.sure(), tuple((run, number) for run, number in sure if number > 0))
        self.assertEqual(board.sure(), paths.sure_lot(graph, numbers))
        self.assertIs(board.is_only(), lots.is_only_lot(graph, numbers))
        self.assertEqual(board.is_only(), lots.freedom(graph, numbers) == 0)
        self.assertEqual(graphs.runs(board.graph()), oracle.all_runs(graph))
        self.assertTrue(counts.is_counts(board.graph(), board.counts()))

    def test_sixty_deeds_all_undone(self):
        for graph in (LADDER, STAIRS):
            board, states, chance = Board(graph), [], random.Random("sixty")
            twins = []
            for turn in range(60):
                states.append((board.graph(), board.counts()))
                twins.append(board.twin())
                zero = [edge for edge, count in zip(board.graph(), board.counts()) if count == 0]
                if turn % 7 == 3:
                    board.forget()
                elif turn % 7 == 5 and told(board.drop, (zero or [("a", "a")])[0]) is None:
                    pass
                else:
                    board.ran(chance.choice(oracle.all_runs(board.graph())), chance.choice((0, 1, GREAT)))
                self.assertEqual(len(board), turn + 1)
            while states:
                before = states.pop()
                self.assertIsNone(board.undo())
                self.assertEqual((board.graph(), board.counts()), before)
                self.assertTrue(board == twins.pop())
                self.assertEqual(len(board), len(states))
            self.assertRaises(NothingDone, board.undo)
            self.assertTrue(board == Board(graph))


class Single(unittest.TestCase):
    """Each deed by itself: what it returns, what it refuses, and that it counts also if it changes nothing."""

    def full(self):
        board = Board(FORK)
        for run, number in (("samct", 6), ("samdt", 1), ("sbmdt", 3)):
            board.ran(tuple(run), number)
        return board

    def test_a_new_board(self):
        for graph in GRAPHS:
            board = Board(graph)
            self.assertEqual((board.graph(), board.counts(), board.total()), (graph, (0,) * len(graph), 0))
            self.assertEqual((board.sure(), board.is_only(), len(board)), ((), True, 0))
            self.assertRaises(NothingDone, board.undo)

    def test_deeds_that_change_nothing_count(self):
        board = Board(FORK)
        for turn, deed in enumerate((lambda: board.ran(tuple("samct"), 0), lambda: board.add((0,) * 8), board.forget,
                                     board.forget)):
            self.assertIsNone(deed())
            self.assertEqual(len(board), turn + 1)
            self.assertTrue(board == Board(FORK))

    def test_refused_deeds_change_nothing(self):
        board = self.full()
        for deed, values, error in (
                ("ran", (tuple("sam"), 1), Unfit()), ("ran", (tuple("amct"), 1), Unfit()), ("ran", ((), 1), Unfit()),
                ("ran", (("s",), 0), Unfit()), ("ran", (tuple("samcx"), 1), Unfit()), ("ran", (("", "x y"), 1), Unfit()),
                ("add", ((1,) + (0,) * 7,), NoCounts()), ("add", ((),), NoCounts()), ("add", ((0,) * 9,), NoCounts()),
                ("link", (("a", "m"),), Known(("a", "m"))), ("link", (("t", "s"),), NoGraph()),
                ("link", (("m", "m"),), NoGraph()), ("link", (("x", "y"),), NoGraph()), ("link", (("t", "v"),), Unfit()),
                ("link", (("v", "s"),), Unfit()), ("link", (("x", "m"),), NoGraph()),
                ("drop", (("m", "z"),), NoEdge(("m", "z"))), ("drop", (("m", "m"),), NoEdge(("m", "m"))),
                ("drop", (("m", "c"),), Unfit()), ("split", (("m", "t"), "x"), NoEdge(("m", "t"))),
                ("split", (("m", "t"), "m"), NoEdge(("m", "t"))), ("split", (("m", "c"), "m"), Twice("m")),
                ("split", (("m", "c"), "s"), Twice("s"))):
            for form in (values, oracle.as_lists(values)):
                with self.subTest(deed=deed, values=values):
                    before = copy.deepcopy(form)
                    with self.assertRaises(type(error)) as caught:
                        getattr(board, deed)(*form)
                    self.assertEqual(repr(vars(caught.exception)), repr(vars(error)))
                    self.assertTrue(board == self.full() and len(board) == 3)
                    self.assertEqual(form, before)

    def test_refused_looks(self):
        board = self.full()
        for path in (tuple("ac"), ("a",), (), tuple("cm"), tuple("amcx"), ("s", "s"), ("a m", "c")):
            for look in (board.least, board.greatest):
                self.assertRaises(Unfit, look, path)
                self.assertRaises(Unfit, look, list(path))
        for edge in (("a", "c"), ("m", "a"), ("s", "s"), ("x", "y")):
            for form in (edge, list(edge)):
                with self.assertRaises(NoEdge) as caught:
                    board.count(form)
                self.assertEqual(repr(caught.exception.edge), repr(edge))
        for name in ("x", "", "sa", "S", " "):
            with self.assertRaises(NoBlock) as caught:
                board.through(name)
            self.assertEqual(vars(caught.exception), {"block": name})

    def test_drop_of_what_is_there_but_must_be(self):
        board = Board(FORK)
        self.assertRaises(NoGraph, board.drop, ("m", "c"))
        self.assertRaises(NoGraph, Board(ONE_EDGE).drop, ONE_EDGE[0])
        self.assertIsNone(board.link(("s", "t")))
        self.assertIsNone(board.drop(("s", "t")))
        board.ran(tuple("samct"), 1)
        self.assertRaises(NoGraph, board.drop, ("m", "d"))
        # Unfit comes ahead of NoGraph.
        self.assertRaises(Unfit, board.drop, ("m", "c"))

    def test_the_entry_and_the_exit_may_change_while_nothing_was_run(self):
        board = Board(SKIP)
        board.link(("t", "v"))
        board.link(("r", "s"))
        self.assertEqual(board.graph(), (("r", "s"), ("s", "t"), ("s", "u"), ("t", "v"), ("u", "t")))
        board.ran(("r", "s", "t", "v"), 2)
        self.assertEqual((board.counts(), board.total(), board.through("v")), ((2, 2, 0, 2, 0), 2, 2))
        self.assertRaises(Unfit, board.drop, ("t", "v"))
        board.forget()
        board.drop(("t", "v"))
        board.drop(("r", "s"))
        self.assertEqual(board.graph(), SKIP)
        self.assertEqual(len(board), 6)

    def test_split_and_undo(self):
        board = self.full()
        board.split(("m", "c"), "x")
        self.assertEqual(board.counts(), (7, 3, 6, 4, 4, 6, 7, 3, 6))
        self.assertEqual((board.count(("m", "x")), board.count(("x", "c")), board.through("x")), (6, 6, 6))
        self.assertEqual(board.least(tuple("amxc")), 3)
        self.assertRaises(Unfit, board.least, tuple("amc"))
        board.undo()
        self.assertTrue(board == self.full())
        for deed in (lambda: board.ran(tuple("sbmct"), 5), lambda: board.add((1,) * 8), board.forget,
                     lambda: board.link(("s", "m")), lambda: board.split(("s", "a"), "q")):
            deed()
            self.assertIsNone(board.undo())
            self.assertTrue(board == self.full() and len(board) == 3)

    def test_each_deed_of_one_edge(self):
        board = Board(ONE_EDGE)
        board.ran(ONE_EDGE[0], GREAT)
        board.add((GREAT,))
        self.assertEqual((board.counts(), board.sure()), ((2 * GREAT,), ((ONE_EDGE[0], 2 * GREAT),)))
        board.split(ONE_EDGE[0], "m")
        self.assertEqual(board.counts(), (2 * GREAT,) * 2)
        self.assertEqual((board.total(), board.is_only()), (2 * GREAT, True))


class Objects(unittest.TestCase):
    def test_methods_stand_in_the_class_itself(self):
        self.assertEqual(Board.__module__, "runsbehind.board")
        self.assertEqual(list(inspect.signature(Board).parameters), ["graph"])
        for name, arguments in METHODS.items():
            function = vars(Board)[name]
            self.assertEqual(list(inspect.signature(function).parameters)[1:], arguments)
        for name in ("__init__", "__eq__", "__len__"):
            self.assertIn(name, vars(Board))

    def test_arguments_by_name(self):
        board = Board(graph=FORK)
        board.ran(number=2, path=tuple("samct"))
        board.add(numbers=(1,) * 4 + (1,) * 4)
        board.link(edge=("s", "m"))
        board.drop(edge=("s", "m"))
        board.split(name="x", edge=("m", "c"))
        looks = (board.count(edge=("m", "x")), board.through(block="x"), board.least(path=tuple("mx")),
                 board.greatest(path=tuple("mx")))
        self.assertEqual(looks, (3, 3, 3, 3))

    def test_lists_that_are_changed_behind(self):
        graph, run, numbers, edge = oracle.as_lists(FORK), list("samct"), [1] * 8, ["s", "m"]
        board = Board(graph)
        graph[0][0] = "zzz"
        graph.pop()
        board.ran(run, 2)
        run.reverse()
        board.add(numbers)
        numbers[0] = 99
        board.link(edge)
        edge[0] = "t"
        self.assertEqual(board.graph(), tuple(sorted(FORK + (("s", "m"),))))
        self.assertEqual(board.counts(), (3, 1, 3, 1, 3, 1, 3, 1, 0))
        board.undo()
        self.assertEqual((board.graph(), board.counts()), (FORK, (3, 1, 3, 1, 3, 1, 3, 1)))

    def test_equal(self):
        one, other = Board(FORK), Board(oracle.as_lists(FORK))
        self.assertTrue(one == other and not one != other and one == one)
        one.ran(tuple("samct"), 1)
        one.ran(tuple("sbmdt"), 1)
        self.assertTrue(one != other and not one == other)
        other.add((1,) * 8)
        # The deeds that led there do not count.
        self.assertTrue(one == other and not one != other and len(one) != len(other))
        other.link(("s", "m"))
        self.assertFalse(one == other)
        other.drop(("s", "m"))
        self.assertTrue(one == other)
        self.assertFalse(Board(SKIP) == Board(FORK))
        # As many EDGES, the same counts, another GRAPH.
        self.assertFalse(Board(SKIP) == Board((("s", "t"), ("s", "v"), ("v", "t"))))
        self.assertTrue(Board(SKIP) != Board((("s", "t"), ("s", "v"), ("v", "t"))))

    def test_equal_to_nothing_else(self):
        board = Board(SKIP)
        for thing in oracle.ODD_THINGS + (SKIP, (SKIP, (0, 0, 0)), Kept(SKIP), mock.ANY, Board, "Board", object()):
            self.assertIs(board == thing, False)
            self.assertIs(board != thing, True)

    def test_iteration_raises(self):
        board = Board(SKIP)
        for turn in range(2):
            for goes in (iter, list, tuple, set, sorted, dict, lambda board: [part for part in board],
                         lambda board: "s" in board, lambda board: [*board], lambda board: dict(zip(board, board))):
                self.assertRaises(TypeError, goes, board)
            board.forget()

    def test_twin(self):
        board = Board(FORK)
        board.ran(tuple("samct"), 4)
        board.split(("m", "c"), "x")
        mate = board.twin()
        self.assertTrue(mate == board and mate is not board and isinstance(mate, Board) and len(mate) == 2)
        mate.undo()
        mate.forget()
        self.assertEqual((len(mate), len(board), mate.total(), board.total()), (2, 2, 0, 4))
        board.undo()
        board.undo()
        self.assertEqual((mate.graph(), board.graph(), len(board), len(mate)), (FORK, FORK, 0, 2))
        mate.undo()
        self.assertEqual(mate.counts(), (4, 0, 4, 0, 4, 0, 4, 0))
        mate.undo()
        self.assertTrue(mate == board)
        self.assertRaises(NothingDone, mate.undo)

    def test_boards_do_not_share(self):
        one, other = Board(FORK), Board(FORK)
        one.ran(tuple("samct"), 4)
        self.assertEqual((len(other), other.total()), (0, 0))

    def test_looks_change_nothing(self):
        board = Board(TWOFOLD)
        board.ran(tuple("samcnet"), 3)
        before = (board.graph(), board.counts(), len(board))
        for _ in range(2):
            looks = (board.total(), board.count(("m", "c")), board.through("n"), board.least(tuple("mcn")),
                     board.greatest(tuple("sb")), board.sure(), board.is_only(), board == board.twin())
            self.assertEqual(looks, (3, 3, 3, 3, 0, ((tuple("samcnet"), 3),), True, True))
        self.assertEqual((board.graph(), board.counts(), len(board)), before)


class Whole(unittest.TestCase):
    """Promise [1], over the whole program: GRAPHS that are turned about, or have EDGES split, beside the GRAPH itself."""

    def test_turned(self):
        for seed, graph in enumerate(list(GRAPHS) + oracle.some_graphs("turned", 10)):
            lot = oracle.some_lot(graph, seed, 5, 4)
            board, mirror = Board(graph), Board(graphs.turned(graph))
            for run, number in lot:
                board.ran(run, number)
                mirror.ran(run[::-1], number)
                for path in oracle.all_paths(graph)[::5]:
                    self.assertEqual(board.least(path), mirror.least(path[::-1]))
                    self.assertEqual(board.greatest(path), mirror.greatest(path[::-1]))
                self.assertEqual((board.total(), board.is_only()), (mirror.total(), mirror.is_only()))
                self.assertEqual(board.sure(), tuple(sorted((path[::-1], many) for path, many in mirror.sure())))
                self.assertEqual([board.through(name) for name in oracle.names_of(graph)],
                                 [mirror.through(name) for name in oracle.names_of(graph)])

    def test_split(self):
        for seed, graph in enumerate((FORK, SKIP, DEEP, TWOFOLD, ONE_EDGE)):
            lot = oracle.some_lot(graph, seed, 5, 4)
            board = Board(graph)
            for run, number in lot:
                board.ran(run, number)
            for begin, end in graph:
                parted = board.twin()
                parted.split((begin, end), "neu")
                self.assertEqual((board.total(), board.is_only()), (parted.total(), parted.is_only()))
                for path in oracle.all_paths(graph):
                    longer = self.split_in(path, begin, end)
                    self.assertEqual(board.least(path), parted.least(longer))
                    self.assertEqual(board.greatest(path), parted.greatest(longer))
                sure = tuple(sorted((self.split_in(path, begin, end), number) for path, number in board.sure()))
                self.assertEqual(parted.sure(), sure)

    def split_in(self, path, begin, end):
        if (begin, end) not in oracle.edges_on(path):
            return path
        at = path.index(end)
        return path[:at] + ("neu",) + path[at:]


if __name__ == "__main__":
    unittest.main()
