"""Promise [19], for each file that is there; and what [2] says of error classes."""

import copy
import inspect
import pickle
import unittest

from runsbehind import asked, chains, corners, counters, counts, days, desk, errors, graphs, hot, lots, paths, ranges
from runsbehind import texts, wrong

LOOKUPS = {"NoBlock": ["block"], "NoEdge": ["edge"], "NoNumber": ["number"], "NoDay": ["day"], "NothingDone": []}
VALUES = {"Known": ["edge"], "Twice": ["name"], "NoGraph": [], "NoCounts": [], "NoLot": [], "Unfit": [],
          "BadText": [], "BadLine": ["number"]}

GRAPHS = """is_graph(thing) is_path(graph,thing) is_run(graph,thing) blocks(graph) entry_of(graph) exit_of(graph)
edges_to(graph,block) edges_from(graph,block) leads(graph,one,other) between(graph,one,other) in_order(graph)
runs(graph) how_many_runs(graph) nth_run(graph,number) number_of_run(graph,run) how_many_ways(graph,one,other)
runs_along(graph,path) with_edge(graph,edge) without_edge(graph,edge) split_edge(graph,edge,name)
shut(graph,block) turned(graph)"""
COUNTS = """is_counts(graph,thing) unbalanced(graph,numbers) through(graph,counts,block) total(graph,counts)
is_lot(graph,thing) counts_of(graph,lot) goes(lot,path) lots_together(one,other) each_once(graph)
a_lot(graph,counts) is_lot_for(graph,counts,thing) enough_runs(graph,counts) fewest_runs(graph,counts)
most_runs(graph,counts)"""
PATHS = """least_gone(graph,counts,path) greatest_gone(graph,counts,path) gone_just(graph,counts,path)
is_surely_gone(graph,counts,path) may_be_gone(graph,counts,path) leaks(graph,counts,path)
narrowest(graph,counts,path) lot_going(graph,counts,path,number) is_lot_going(graph,counts,path,number,thing)
sure_paths(graph,counts) greatest_sure(graph,counts) longest_sure(graph,counts) runs_to_sure(graph,counts,path)
telling_edges(graph,path) is_always_told(graph,path) sure_lot(graph,counts) left_counts(graph,counts)"""
CHAINS = """is_chain(graph,thing) is_shun(graph,chain,thing) keeps(chain,shun,run) kept_runs(graph,chain,shun)
least_kept(graph,counts,chain,shun) most_kept(graph,counts,chain,shun) kept_lot(graph,counts,chain,shun,number)
is_kept_lot(graph,counts,chain,shun,number,thing) most_paper(graph,counts,chain,shun)
least_paper(graph,counts,chain,shun) is_most_paper(graph,counts,chain,shun,thing)
is_least_paper(graph,counts,chain,shun,thing) sure_behind(graph,counts,edge) never_behind(graph,counts,edge)
twin_edges(graph,counts) strongest_pair(graph,counts)"""
HOT = """surplus(graph,counts,path) hot_paths(graph,counts,bar) hot_ends(graph,counts,bar) hottest(graph,counts,many)
hot_from(graph,counts,block) nth_hottest(graph,counts,number) hot_place(graph,counts,run) goes_on(graph,counts,path)
widest_run(graph,counts) sure_total(graph,counts) fewest_hot(graph,counts,number) hot_set(graph,counts,number)
warmed(path,run) room_for(graph,counts,path,run,bar)"""
LOTS = """live_edges(graph,counts) live_runs(graph,counts) ways_at(graph,counts,block) open_blocks(graph,counts)
freedom(graph,counts) is_only_lot(graph,counts) only_lot(graph,counts) own_edges(graph,counts,run)
lots_apart(graph,counts) is_lots_apart(graph,counts,thing) in_both(one,other) how_unlike(one,other)
exchanged(lot,one,other,block) exchanges_of(lot) how_many_lots(graph,counts) all_lots(graph,counts)
nth_lot(graph,counts,number) number_of_lot(graph,lot) lots_by(graph,counts,path) fewest_exchanges(graph,one,other)
exchange_way(graph,one,other) is_exchange_way(one,other,thing)"""
COUNTERS = """is_counters(graph,thing) shown(graph,counters,counts) are_enough(graph,counters) told_edges(graph,counters)
told_blocks(graph,counters) missed_swing(graph,counters) is_missed_swing(graph,counters,thing)
spare_counters(graph,counters) more_counters(graph,counters) fewest_counters(graph) least_counters(graph)
how_many_fewest(graph) cheapest_counters(graph,prices) least_places(graph) counts_told(graph,counters,first,second)
put_back(graph,partial)"""
RANGES = """is_ranges(graph,thing) is_within(graph,ranges,thing) can_fit(graph,ranges) counts_within(graph,ranges)
range_bar(graph,ranges) is_range_bar(graph,ranges,thing) sharp_ranges(graph,ranges) is_sharp(graph,ranges)
loose_edges(graph,ranges) total_range(graph,ranges) through_range(graph,ranges,block) path_range(graph,ranges,path)
counts_for(graph,ranges,path,number) is_counts_for(graph,ranges,path,number,thing)"""
WRONG = """is_noted(graph,thing) misfits(graph,noted) can_be_wrong(graph,noted,some) wrong_dam(graph,noted,some)
is_wrong_dam(graph,noted,some,thing) fewest_wrong(graph,noted) wrong_sets(graph,noted) suspects(graph,noted)
surely_wrong(graph,noted) put_right(graph,noted,some) is_put_right(graph,noted,some,thing)
right_range(graph,noted,some,edge) least_change(graph,noted) nearest_counts(graph,noted)
is_nearest(graph,noted,thing)"""
DAYS = """is_days(graph,thing) days_together(graph,days) excesses(graph,days,path) sure_by_days(graph,days,path)
sure_by_sum(graph,days,path) hidden(graph,days,path) top_by_days(graph,days,path) top_by_sum(graph,days,path)
top_hidden(graph,days,path) day_range(graph,days,path,number,day) fewest_days(graph,days,path,number)
most_days(graph,days,path,number) kept_by(graph,days,paths,cuts) fewest_cuts(graph,days,paths)
best_cuts(graph,days,paths,most) day_split(graph,counts,path,number) is_day_split(graph,counts,path,number,thing)"""
CORNERS = """corners_in(graph) is_corners(graph,counts,thing) corners_of(graph,lot) least_corners(graph,counts)
greatest_corners(graph,counts) how_many_corners(graph,counts) least_with(graph,counts,corners,path)
greatest_with(graph,counts,corners,path) lot_with(graph,counts,corners,path,times)
is_lot_with(graph,counts,corners,path,times,thing) single_with(graph,counts,corners)
corner_span(graph,counts,known,corner) path_span(graph,counts,known,path) widths_left(graph,counts,path)
best_corner(graph,counts,path)"""
ASKED = """tells_all(graph,paths) fewest_telling(graph) telling_paths(graph) is_telling_paths(graph,thing)
parting_lots(graph,paths) is_parting_lots(graph,paths,thing) lot_told(graph,counts,answers)
told_back(graph,counts,asker) lots_left(graph,counts,answers) parts_by(graph,counts,answers,path)
best_ask(graph,counts,answers) fewest_asks(graph,counts,answers)"""
TEXTS = """graph_text(graph) path_text(path) counts_text(counts) lot_text(lot) graph_in(text) path_in(text) counts_in(text)
lot_in(text)"""
DESK = """is_request(thing) replies(graph,text)"""
LISTED = ((graphs, GRAPHS), (counts, COUNTS), (paths, PATHS), (chains, CHAINS), (hot, HOT), (lots, LOTS),
          (counters, COUNTERS), (ranges, RANGES), (wrong, WRONG), (days, DAYS), (corners, CORNERS),
          (asked, ASKED), (texts, TEXTS), (desk, DESK))


class Functions(unittest.TestCase):
    def test_each_stands_in_its_file_with_its_arguments(self):
        for module, listed in LISTED:
            for line in listed.split():
                name, arguments = line[:-1].split("(")
                with self.subTest(name=name):
                    function = getattr(module, name)
                    self.assertTrue(inspect.isfunction(function))
                    self.assertEqual(function.__module__, module.__name__)
                    self.assertEqual(list(inspect.signature(function).parameters), arguments.split(","))
                    for parameter in inspect.signature(function).parameters.values():
                        self.assertEqual(parameter.kind, parameter.POSITIONAL_OR_KEYWORD)
                        self.assertIs(parameter.default, parameter.empty)


class Errors(unittest.TestCase):
    def both(self):
        for base, listed in ((LookupError, LOOKUPS), (ValueError, VALUES)):
            for name, kept in listed.items():
                yield base, getattr(errors, name), kept

    def test_each_is_directly_under_its_class(self):
        for base, error, _ in self.both():
            with self.subTest(error=error.__name__):
                self.assertEqual(error.__bases__, (base,))
                self.assertEqual(error.__module__, "runsbehind.errors")

    def test_each_keeps_its_values(self):
        for _, error, kept in self.both():
            for worth in ("x", 5, ("a", "b"), -10 ** 40, 10 ** 5000):
                values = {name: worth for name in kept}
                for made in (error(*values.values()), error(**values)):
                    with self.subTest(error=error.__name__):
                        self.assertEqual(vars(made), values)
                        self.assertEqual(vars(copy.copy(made)), values)
                        self.assertEqual(vars(pickle.loads(pickle.dumps(made))), values)

    def test_each_takes_just_its_values(self):
        for _, error, kept in self.both():
            with self.subTest(error=error.__name__):
                self.assertRaises(TypeError, error, *(["x"] * (len(kept) + 1)))
                if kept:
                    self.assertRaises(TypeError, error)

    def test_there_are_just_these(self):
        found = {name for name, worth in vars(errors).items() if inspect.isclass(worth)}
        self.assertEqual(found, set(LOOKUPS) | set(VALUES))


if __name__ == "__main__":
    unittest.main()
