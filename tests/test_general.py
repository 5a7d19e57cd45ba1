"""Promise [2], for all functions of all files: lists for tuples, names, equal results again, new lists, errors."""

import copy
import inspect
import unittest

from runsbehind import asked, chains, corners, counters, counts, days, desk, graphs, hot, lots, paths, ranges, texts
from runsbehind import wrong
from runsbehind.errors import BadLine, BadText, Known, NoBlock, NoCounts, NoDay, NoEdge, NoGraph, NoLot, NoNumber
from runsbehind.errors import Twice, Unfit

from tests import oracle
from tests.oracle import DEEP, FORK, LADDER, ONE_EDGE, SKIP
from tests.test_interface import LISTED

BIG = 10 ** 30
SEVEN = (7, 3, 6, 4, 6, 4, 7, 3)
AC, AD, BC, BD = [("s", one, "m", other, "t") for one in "ab" for other in "cd"]
LOT = ((AC, 6), (AD, 1), (BD, 3))
AMX, AMY, BMX, BMY = [("s", one, "m", other, "t") for one in "ab" for other in "xy"]
HIGH, LOW = ("q", "b", "m", "a", "c", "d"), ("q", "z", "m", "y", "x", "d")
MIXED = (("q", "b", "m", "y", "x", "d"), ("q", "z", "m", "a", "c", "d"))
# For each GRAPH other arguments that go with it; each function is called with all that its names ask for.
WORLDS = (
    {"graph": FORK, "counts": SEVEN, "lot": LOT, "path": ("a", "m", "c"), "run": ("s", "b", "m", "c", "t"),
     "one": "s", "other": "m", "block": "a", "edge": ("s", "c"), "name": "neu", "number": 3,
     "numbers": (7, 3, 6, 4, 6, 5, 7, 3), "chain": (("s", "a"), ("m", "c")), "shun": (("b", "m"), ("d", "t")),
     "bar": 3, "many": 2, "counters": ((("a", "m"), ("b", "m"), ("c", "t")), ("a", "s")), "prices": SEVEN,
     "first": (7, 3, 6), "second": (7, 10), "partial": (7, None, 6, None, None, None, None, None),
     "pair": (((AC, 1), (AD, 1), (BC, 1)), ((AC, 2), (BD, 1))), "two": (AD, BC), "at": "m",
     "ranges": ((7, 9), (0, 2), (6, 6), (4, 4), (6, 6), (4, 4), (0, 10), (0, 10)), "noted": (7, 3, 6, 4, 6, 5, 7, 3),
     "some": (("a", "m"), ("d", "t"), ("s", "a")), "days": (SEVEN, (1, 9, 2, 8, 2, 8, 1, 9), (4, 6, 5, 5, 5, 5, 4, 6)),
     "day": 1, "paths": (("a", "m", "c"), ("b", "m", "d")), "cuts": (1, 2), "most": 2,
     "corners": (5, 2, 1, 2, 6, 4, 7, 3), "times": 5, "known": ((("a", "m", "c"), 5), (("m", "c", "t"), 6)),
     "corner": ("b", "m", "d"), "long": ("s", "a", "m", "c", "t"), "answers": ((("a", "m", "c"), 2),),
     "text": "ran s>a>m>c>t 3\nsure\ngraph\nleast a>c\nundo"},
    {"graph": SKIP, "counts": (2, 3, 3), "lot": ((("s", "t"), 2), (("s", "u", "t"), 3)), "path": ("s", "u", "t"),
     "run": ("s", "t"), "one": "t", "other": "s", "block": "u", "edge": ("s", "t"), "name": "u", "number": 1,
     "numbers": (BIG, 0, 1), "chain": (), "shun": (), "bar": 1, "many": 1, "counters": ((), ("s", "u")),
     "prices": (5, 5, 5), "first": (), "second": (BIG, BIG + 1), "partial": (None, BIG, None),
     "pair": (((("s", "t"), 2), (("s", "u", "t"), 1)),) * 2, "two": (("s", "t"), ("s", "u", "t")), "at": "u",
     "ranges": ((0, BIG), (3, 5), (4, BIG)), "noted": (0, BIG, 1), "some": (("s", "u"), ("t", "u")),
     "days": ((BIG, BIG, BIG), (0, 0, 0)), "day": 2, "paths": (), "cuts": (1,), "most": 0, "corners": (3,), "times": 3,
     "known": ((("s", "u", "t"), 2),), "corner": ("s", "u", "t"), "long": ("s", "u", "t"),
     "answers": (), "text": ""},
    {"graph": ONE_EDGE, "counts": (BIG,), "lot": (), "path": ONE_EDGE[0], "run": ONE_EDGE[0], "one": "zz",
     "other": "zz", "block": "zz", "edge": ONE_EDGE[0], "name": "b", "number": BIG, "numbers": (0,),
     "chain": ONE_EDGE, "shun": (), "bar": BIG, "many": 9, "counters": (ONE_EDGE, ()), "prices": (BIG,),
     "first": (-BIG,), "second": (), "partial": (None,), "pair": ((), ()), "two": (ONE_EDGE[0],) * 2, "at": "zz",
     "ranges": ((0, BIG),), "noted": (BIG,), "some": ONE_EDGE, "days": ((BIG,),) * 8, "day": 7,
     "paths": ONE_EDGE * 4, "cuts": (0, 3), "most": BIG, "corners": (), "times": BIG, "known": (), "corner": None,
     "answers": ((ONE_EDGE[0], 0),), "text": "total\nlook"},
    {"graph": DEEP, "counts": (6, 2, 4, 7, 3, 8, 4, 7, 5), "lot": (), "path": ("a", "m", "x"),
     "run": ("s", "a", "y", "t"), "one": "a", "other": "gone", "block": "gone", "edge": ("m", "x"), "name": "m",
     "number": -1, "numbers": (0,) * 9, "chain": (("s", "a"), ("x", "t")), "shun": (("a", "y"), ("b", "m")),
     "bar": 3, "many": 4, "counters": ((("a", "m"),), ("m", "t", "y")), "prices": (0, 1, 0, 1, 0, 1, 0, 1, 0),
     "first": (6,), "second": (10, 12, 5), "partial": (6, None, None, None, None, None, None, 7, None),
     "pair": (((AMX, 2), (BMY, 1)), ((AMX, 1), (AMY, 1), (BMX, 1))), "two": (AMX, BMY), "at": "x",
     "ranges": ((0, 1), (0, 1), (0, 1), (3, 9), (3, 9), (0, 9), (0, 9), (0, 9), (0, 9)),
     "noted": (6, 2, 4, 7, 3, 8, 4, 7, 6), "some": (("a", "m"), ("b", "m")),
     "days": ((6, 2, 4, 7, 3, 8, 4, 7, 5), (0,) * 9), "day": -1, "paths": (("a", "m", "x"),) * 2, "cuts": (), "most": 1,
     "corners": (4, 2, 2, 3, 1, 7, 3, 6, 2, 4), "times": 1, "known": ((("a", "m", "x"), 7),),
     "corner": ("b", "m", "y"), "long": ("s", "a", "m", "x"), "answers": ((("a", "m", "x"), 1), (("b", "m"), 1)),
     "text": "total\n"},
    {"graph": LADDER, "counts": (0,) * 16, "lot": (), "path": ("q", "b", "m"), "run": ("q", "z", "k", "y", "x", "d"),
     "one": "q", "other": "d", "block": "q", "edge": ("q", "q"), "name": "zzzzzzzz", "number": 0,
     "numbers": tuple(range(16)), "chain": (("q", "b"), ("x", "d")), "shun": (("b", "m"),), "bar": 1, "many": 3,
     "counters": ((), ()), "prices": tuple(range(16)), "first": (), "second": (), "partial": (0,) * 16,
     "pair": (((HIGH, 3), (LOW, 3)), ((HIGH, 2), (MIXED[0], 1), (MIXED[1], 1), (LOW, 2))), "two": (HIGH, LOW),
     "at": "m", "ranges": ((0, BIG),) * 16, "noted": (0,) * 16, "some": (), "days": ((0,) * 16,) * 3, "day": 0,
     "paths": (("q", "b"), ("b", "m", "a")), "cuts": (2,), "most": 3, "corners": (0,) * 24, "times": 0,
     "known": ((("b", "m", "a"), 0),), "corner": ("b", "m", "y"), "long": ("q", "b", "m", "a", "c", "d"),
     "answers": ((("b", "m", "a"), 3), (("m", "a", "c"), 3)), "text": "counts\nonly\nsplit q>b neu\ncounts\ndeeds"},
)
KNOWN = (BadLine, BadText, Known, NoBlock, NoCounts, NoDay, NoEdge, NoGraph, NoLot, NoNumber, Twice, Unfit)
# These want counts of a small TOTAL, and two LOTS that have the same ones.
FEW = (counts.fewest_runs, counts.most_runs, lots.how_many_lots, lots.all_lots, lots.nth_lot, lots.lots_by,
       lots.is_lots_apart, asked.lot_told, asked.told_back, asked.lots_left, asked.parts_by, asked.best_ask,
       asked.fewest_asks)
# These want a corner, or a PATH of three blocks or more: there is none where there is one EDGE alone.
LONG = (corners.least_with, corners.greatest_with, corners.lot_with, corners.is_lot_with, corners.corner_span,
        corners.path_span, corners.widths_left, corners.best_corner)
LISTS = (graphs.runs, paths.sure_paths, paths.greatest_sure, hot.hot_paths, hot.hot_ends, lots.live_runs,
         lots.exchanges_of, lots.all_lots, wrong.wrong_sets, asked.lots_left, desk.replies)
YES_OR_NO = (graphs.leads, chains.keeps, corners.single_with, asked.tells_all)
# What is read is what is written of these, or something else.
READ = {texts.graph_in: lambda world: texts.graph_text(world["graph"]),
        texts.path_in: lambda world: texts.path_text(world["path"]),
        texts.counts_in: lambda world: texts.counts_text(world["counts"]),
        texts.lot_in: lambda world: texts.lot_text(world["lot"])}
PAIRS = (lots.in_both, lots.how_unlike, lots.fewest_exchanges, lots.exchange_way, lots.is_exchange_way)


def functions():
    for module, listed in LISTED:
        for line in listed.split():
            yield getattr(module, line.split("(")[0])


def things_for(world):
    """Values that are one of the things that the functions ask for, and some that are none."""
    yield from (world["graph"], world["counts"], world["path"], world["run"], world["lot"])
    yield from (world["chain"], world["shun"], world["counters"], world["pair"], world["pair"][:1], (world["graph"][0],))
    yield from (world["ranges"], world["noted"], world["days"], world["corners"], (world["graph"][0][1:], "in"))
    yield counters.missed_swing(world["graph"], ((), ()))
    yield from (ranges.range_bar(world["graph"], world["ranges"]), days.day_split(world["graph"], world["counts"],
                                                                                 world["path"], world["number"]))
    yield chains.most_paper(world["graph"], world["counts"], world["chain"], world["shun"])
    yield from (asked.telling_paths(world["graph"]), asked.parting_lots(world["graph"], ()), "total", "ran s>t 5")
    yield from (None, (), [], True, 7, "st", oracle.nested("a", 12), ((("s", "t"), True),), (True, False))


def calls():
    """Each function with arguments by name, in the order in which they are shown."""
    for world in WORLDS:
        world["asker"] = lambda path, lot=world["pair"][0]: oracle.goes(lot, path)
        for function in functions():
            names = list(inspect.signature(function).parameters)
            values = {name: world[name] for name in names if name != "thing"}
            if function in READ:
                yield function, values
                values = {"text": READ[function](world)}
            pair = dict(zip(("one", "other"), world["pair"]))
            if function in FEW:
                values["counts"] = counts.counts_of(world["graph"], world["pair"][0])
            if function in PAIRS:
                values.update(pair)
            if function is counts.lots_together:
                values = {"one": world["lot"], "other": ((world["run"], BIG),)}
            if function is lots.number_of_lot:
                values["lot"] = world["pair"][1]
            if function is lots.exchanged:
                values = dict(zip(names, (world["pair"][0],) + world["two"] + (world["at"],)))
            if function in LONG:
                if "long" not in world:
                    continue
                values.update({"path": world["long"]} if "path" in values else {})
            if "thing" not in names:
                yield function, values
            else:
                for thing in things_for(world):
                    yield function, {name: values.get(name, thing) for name in names}


CALLS = list(calls())


def told(function, *values, **named):
    """What the call returns, or the error that it raises with what that keeps; with lists told from tuples."""
    try:
        found = function(*values, **named)
    except KNOWN as error:
        return type(error).__name__, repr(vars(error))
    return repr(found)


def changed(values, by):
    """The arguments with lists for tuples; a thing stays what it is."""
    return {name: worth if name == "thing" else by(worth) for name, worth in values.items()}


def flat(value):
    return isinstance(value, (int, str)) or value is None


def is_tuples(value):
    return flat(value) or isinstance(value, tuple) and all(is_tuples(part) for part in value)


class General(unittest.TestCase):
    def test_lists_for_tuples_and_names(self):
        for function, values in CALLS:
            expected = told(function, *values.values())
            with self.subTest(function=function.__name__, values=values):
                self.assertEqual(told(function, **values), expected)
                self.assertEqual(told(function, **dict(reversed(values.items()))), expected)
                for by in (oracle.as_lists, oracle.as_mixed, lambda value: oracle.as_mixed(value, 1)):
                    self.assertEqual(told(function, *changed(values, by).values()), expected)
                    self.assertEqual(told(function, **changed(values, by)), expected)
                self.assertEqual(told(function, *values.values()), expected)

    def test_arguments_stay_as_they_were(self):
        for function, values in CALLS:
            lists = {name: oracle.as_lists(worth) for name, worth in values.items()}
            before = copy.deepcopy(lists)
            told(function, **lists)
            self.assertEqual(repr(lists), repr(before), function.__name__)

    def test_returned_lists_belong_to_the_caller(self):
        for function, values in CALLS:
            expected = told(function, **values)
            found = None
            if not isinstance(expected, tuple):
                found = function(**values)
            if isinstance(found, list):
                found.append("mine")
                found.reverse()
                self.assertEqual(told(function, **values), expected, function.__name__)

    def test_what_is_returned_holds_no_lists_within(self):
        for function, values in CALLS:
            if isinstance(told(function, **values), tuple):
                continue
            for form in (values, changed(values, oracle.as_lists)):
                found = function(**form)
                parts = found if isinstance(found, list) else [found]
                self.assertTrue(all(is_tuples(part) for part in parts), function.__name__)
                self.assertEqual(isinstance(found, list), function in LISTS)

    def test_yes_and_no_are_bools(self):
        for function, values in CALLS:
            asks = function.__name__.startswith(("is_", "may_", "are_", "can_")) or function in YES_OR_NO
            if asks and not isinstance(told(function, **values), tuple):
                self.assertIn(told(function, **values), ("True", "False"))

    def test_all_functions_are_called(self):
        self.assertEqual(len({function for function, _ in CALLS}), 22 + 14 + 17 + 16 + 14 + 22 + 16 + 14 + 15 + 17 + 15
                         + 12 + 8 + 2)

    def test_what_is_returned_may_be_passed_in_again(self):
        for world in WORLDS:
            graph = graphs.turned(graphs.turned(world["graph"]))
            numbers = counts.counts_of(graph, counts.a_lot(graph, world["counts"]))
            self.assertEqual(numbers, world["counts"])
            for run in graphs.runs(graph):
                self.assertEqual(graphs.nth_run(graph, graphs.number_of_run(graph, run)), run)
                self.assertIn(graphs.number_of_run(graph, run), graphs.runs_along(graph, run))
            for path in paths.sure_paths(graph, numbers):
                lot = paths.lot_going(graph, numbers, path, paths.least_gone(graph, numbers, path))
                self.assertTrue(counts.is_lot_for(graph, numbers, counts.lots_together(lot, ())))


class FirstErrors(unittest.TestCase):
    """Which error comes first where two could be raised, and that a call that raises one changes nothing."""

    def test_order(self):
        cases = (
            (graphs.with_edge, (SKIP, ("s", "t")), Known(("s", "t"))),
            (graphs.with_edge, (SKIP, ("s", "s")), NoGraph()),
            (graphs.without_edge, (SKIP, ("t", "v")), NoEdge(("t", "v"))),
            (graphs.without_edge, (SKIP, ("s", "u")), NoGraph()),
            (graphs.split_edge, (SKIP, ("s", "v"), "s"), NoEdge(("s", "v"))),
            (graphs.split_edge, (SKIP, ("s", "t"), "s"), Twice("s")),
            (graphs.split_edge, (SKIP, ("s", "t"), "u"), Twice("u")),
            (graphs.leads, (SKIP, "x", "y"), NoBlock("x")),
            (graphs.between, (SKIP, "y", "x"), NoBlock("y")),
            (graphs.how_many_ways, (SKIP, "s", "y"), NoBlock("y")),
            (graphs.how_many_ways, (SKIP, "y", "y"), NoBlock("y")),
            (graphs.shut, (SKIP, "x"), NoBlock("x")),
            (graphs.shut, (SKIP, "s"), NoGraph()),
            (graphs.nth_run, (SKIP, -BIG), NoNumber(-BIG)),
            (graphs.nth_run, (SKIP, 2), NoNumber(2)),
            (counts.through, (SKIP, (0, 0, 0), "x"), NoBlock("x")),
            (chains.sure_behind, (SKIP, (0, 0, 0), ("s", "s")), NoEdge(("s", "s"))),
            (chains.never_behind, (SKIP, (1, 1, 1), ("t", "u")), NoEdge(("t", "u"))),
            (hot.hot_from, (SKIP, (0, 0, 0), "x"), NoBlock("x")),
            (hot.nth_hottest, (SKIP, (0, 0, 0), -1), NoNumber(-1)),
            (hot.room_for, (SKIP, (1, 1, 1), ("s", "u"), ("s", "t"), 2), Unfit()),
            (lots.ways_at, (SKIP, (0, 0, 0), "x"), NoBlock("x")),
            (lots.exchanged, (((AC, 1),), AC, BD, "x"), NoLot()),
            (lots.exchanged, (((AC, 1),), BD, BD, "m"), NoLot()),
            (lots.exchanged, (((AC, 1), (BD, 1)), AC, BD, "d"), NoBlock("d")),
            (lots.nth_lot, (SKIP, (1, 1, 1), 1), NoNumber(1)),
            (lots.nth_lot, (SKIP, (0, 0, 0), -1), NoNumber(-1)),
            (counters.counts_told, (SKIP, ((), ("s",)), (), (-1,)), Unfit()),
            (ranges.through_range, (SKIP, ((0, 9), (1, 2), (3, 4)), "x"), NoBlock("x")),
            (ranges.through_range, (SKIP, ((0, 9), (1, 2), (3, 4)), "u"), NoCounts()),
            (ranges.is_counts_for, (SKIP, ((0, 9), (1, 2), (3, 4)), ("s", "t"), 0, None), NoCounts()),
            (wrong.right_range, (SKIP, (1, 2, 3), (("a", "b"), ("b", "a")), ("x", "y")), NoEdge(("a", "b"))),
            (wrong.right_range, (SKIP, (1, 2, 3), (), ("x", "y")), NoEdge(("x", "y"))),
            (wrong.right_range, (SKIP, (1, 2, 3), (), ("s", "t")), NoCounts()),
            (wrong.is_put_right, (SKIP, (1, 2, 3), (("u", "s"),), None), NoEdge(("u", "s"))),
            (wrong.is_wrong_dam, (SKIP, (1, 2, 3), (("u", "s"),), None), NoEdge(("u", "s"))),
            (days.day_range, (SKIP, ((0, 0, 0),), ("s", "t"), 5, 1), NoDay(1)),
            (days.kept_by, (SKIP, ((0, 0, 0),) * 3, (), (-5, 0, 1, 3)), NoDay(-5)),
            (asked.lot_told, (FORK, SEVEN, ((("m", "c"), 100),)), Unfit()),
            (asked.lot_told, (FORK, SEVEN, ((("a", "m", "c"), 5), (("m", "c"), 100))), NoLot()),
            (asked.lot_told, (SKIP, (0, 1, 1), ((("s", "t"), 1),)), NoLot()),
            (desk.replies, (FORK, "drop m>c\nlook\n"), BadLine(1)),
            (desk.replies, (FORK, "\n"), BadLine(0)),
            (texts.graph_in, ("t>s, s>t",), BadText()),
            (texts.lot_in, ("1 s>t; 1 s",), BadText()),
            (counters.counts_told, (SKIP, ((), ("s", "u")), (), (1, 2)), NoCounts()),
        )
        for function, values, error in cases:
            for form in (values, (oracle.as_lists(values[0]),) + values[1:]):
                before = copy.deepcopy(form)
                with self.subTest(function=function.__name__, values=values):
                    with self.assertRaises(type(error)) as caught:
                        function(*form)
                    self.assertEqual(vars(caught.exception), vars(error))
                    self.assertEqual(form, before)

    def test_bad_edges_in_lists_are_kept_as_tuples(self):
        for function in (chains.sure_behind, chains.never_behind):
            with self.assertRaises(NoEdge) as caught:
                function(SKIP, [0, 0, 0], ["u", "s"])
            self.assertEqual(repr(caught.exception.edge), repr(("u", "s")))
        for some, edge in (([["u", "s"]], ["s", "t"]), ([], ["u", "s"])):
            with self.assertRaises(NoEdge) as caught:
                wrong.right_range(SKIP, [0, 0, 0], some, edge)
            self.assertEqual(repr(caught.exception.edge), repr(("u", "s")))

    def test_errors_can_be_caught_by_their_class(self):
        self.assertRaises(LookupError, chains.sure_behind, SKIP, (0, 0, 0), ("t", "s"))
        self.assertRaises(ValueError, counters.counts_told, SKIP, ((), ()), (), ())
        self.assertRaises(LookupError, graphs.nth_run, SKIP, 2)
        self.assertRaises(LookupError, graphs.shut, SKIP, "x")
        self.assertRaises(ValueError, graphs.shut, SKIP, "s")
        self.assertRaises(ValueError, graphs.split_edge, SKIP, ("s", "t"), "u")


if __name__ == "__main__":
    unittest.main()
