"""Promise [18]: each request and its reply, beside a Board to which the same is done; lines that are no requests."""

import random
import re
import unittest

from runsbehind import desk
from runsbehind.board import Board
from runsbehind.errors import BadLine, Known, NoBlock, NoCounts, NoEdge, NoGraph, NothingDone, Twice, Unfit

from tests import oracle
from tests.oracle import FORK, GRAPHS, LADDER, ONE_EDGE, SKIP, STAIRS
from tests.test_board import Kept, random_deed
from tests.test_texts import NAME, SIGNS, WAY, way_of

GREAT = 10 ** 30
COUNT = "(?:0|[1-9][0-9]{0,29})"
FORMS = ("forget", "undo", "total", "deeds", "sure", "graph", "counts", "only", f"ran {WAY} {COUNT}",
         f"add {COUNT}(?: {COUNT})*", f"link {NAME}>{NAME}", f"drop {NAME}>{NAME}", f"split {NAME}>{NAME} {NAME}",
         f"count {NAME}>{NAME}", f"through {NAME}", f"least {WAY}", f"greatest {WAY}")
GOOD = ("forget", "undo", "total", "deeds", "sure", "graph", "counts", "only", "ran s>a>m>c>t 6", "ran s>a 0",
        "add 1 0 1 0 1 0 1 0", "add 0", "link s>m", "drop s>m", "split m>c x", "split s>a a", "count m>d", "through m",
        "least a>m>c", "greatest a>m>c", "least zz>y", "ran a>b " + "9" * 30, "add " + "9" * 30 + " 10", "through aaaaaaaa")
BAD = ("", " ", "look", "ran", "ran ", "ran s 1", "ran s>a", "ran s>a 01", "ran s>a -1", "ran s>a +1", "ran s>a 1 ",
       "ran s>a  1", " ran s>a 1", "ran s>a 1 2", "ran s>a>s 1", "ran s>s 1", "ran a>b 1" + "0" * 30, "ran a>b \u0661",
       "add", "add ", "add 1 ", "add  1", "add 01", "add -1", "add 1,2", "add 1" + "0" * 30, "add a", "forget ",
       "forget x", "link", "link s", "link s>a>b", "link s>s", "link s>A", "link s > a", "link s>a t>b", "drop s>a>b",
       "drop", "split s>a", "split s>a aaaaaaaaa", "split s>a A", "split s>a b c", "split s>a ", "split s a b", "split s>a>b c",
       "count", "count s", "count s>a>b", "counts ", "counts 1", "through", "through A", "through ", "through a b",
       "through \u0430", "through s>t", "least", "least s", "least s>s", "least s>a 1", "greatest s>", "total 1", "TOTAL",
       "Total", "undo 1", "deeds ", "sure\t", "graph\r", "only\x00", "only \n", "\nonly", "on ly", "yes", "done", "least  s>a",
       "add 1\n", "total\n", "\u00e9", "link \u00e9>a", "-", "ran - 1")


def is_request(thing):
    if not isinstance(thing, str):
        return False
    if not any(re.fullmatch(form, thing, re.ASCII) for form in FORMS):
        return False
    return all(way_of(word) is not None for word in thing.split(" ") if ">" in word)


def reply(board, line):
    """The reply, word by word as the document says, by what the Board does."""
    verb, *words = line.split(" ")
    values = [tuple(word.split(">")) if ">" in word else int(word) if word.isdigit() else word for word in words]
    if verb == "add":
        values = [tuple(values)]
    asked = {"deeds": board.__len__, "only": board.is_only}.get(verb) or getattr(board, verb)
    try:
        found = asked(*values)
    except (Known, NoBlock, NoCounts, NoEdge, NoGraph, NothingDone, Twice, Unfit) as error:
        return "refused " + type(error).__name__
    if verb == "sure":
        return "; ".join(f"{number} {'>'.join(run)}" for run, number in found) or "-"
    if verb == "graph":
        return ", ".join(f"{one}>{other}" for one, other in found)
    if verb == "counts":
        return " ".join(map(str, found))
    return {None: "done", True: "yes", False: "no"}[found] if found is None or verb == "only" else str(found)


class Requests(unittest.TestCase):
    def test_good_and_bad_ones(self):
        for line in GOOD:
            self.assertIs(desk.is_request(line), True, line)
            self.assertTrue(is_request(line), line)
        for line in BAD:
            self.assertIs(desk.is_request(line), False, line)
            self.assertFalse(is_request(line), line)

    def test_bent_at_one_sign(self):
        for line in GOOD:
            for at in range(len(line) + 1):
                for sign in SIGNS:
                    for other in (line[:at] + sign + line[at:], line[:at] + sign + line[at + 1:]):
                        self.assertIs(desk.is_request(other), is_request(other), other)

    def test_things_of_all_kinds(self):
        for thing in oracle.ODD_THINGS + (["total"], ("total",), (("total",),), b"total", "total" * 20000, "add" + " 1" * 9999,
                                          "add 1" + "0" * 99999, "ran " + "a>" * 999 + "a 1"):
            self.assertIs(desk.is_request(thing), is_request(thing), thing)

    def test_words_that_stand_alone(self):
        for word in ("forget", "undo", "total", "deeds", "sure", "graph", "counts", "only"):
            self.assertIs(desk.is_request(word), True)
            for more in (" 1", " s>a", " a", " ", "  "):
                self.assertIs(desk.is_request(word + more), False)


class Replies(unittest.TestCase):
    def lines_for(self, graph, seed):
        """Requests whose deeds leave the GRAPH within its bounds, at most 60 of them deeds."""
        chance, kept = random.Random(seed), Kept(graph)
        lines = []
        for _ in range(40):
            deed, *values = random_deed(kept, chance)
            between = " " if deed == "add" else ">"
            words = [deed] + [between.join(map(str, part)) if isinstance(part, tuple) else str(part) for part in values]
            line = " ".join(words)
            if is_request(line):
                kept.do(deed, *values)
                lines.append(line)
            lines += [look for look in self.looks(kept.graph, chance) if is_request(look)][:2]
        return lines

    def looks(self, graph, chance):
        path = chance.choice(oracle.all_paths(graph))
        edge = chance.choice(graph)
        found = ["total", "deeds", "sure", "graph", "counts", "only", "count " + ">".join(edge), "through " + edge[0],
                 "through nobody", "count z>zz", "least " + ">".join(path), "greatest " + ">".join(path),
                 "least " + ">".join(path[::-1]), "greatest zz>z"]
        return chance.sample(found, 6)

    def test_beside_a_board(self):
        seen = set()
        for seed, graph in enumerate(list(GRAPHS) * 2 + oracle.some_graphs("desk", 20)):
            lines = self.lines_for(graph, seed)
            board = Board(graph)
            expected = [reply(board, line) for line in lines]
            for form in (graph, oracle.as_lists(graph)):
                self.assertEqual(desk.replies(form, "\n".join(lines)), expected)
            seen |= {(line.split(" ")[0], text.split(" ")[1]) for line, text in zip(lines, expected)
                     if text.startswith("refused")}
        self.assertLessEqual({("ran", "Unfit"), ("add", "NoCounts"), ("link", "Known"), ("link", "NoGraph"),
                              ("drop", "NoEdge"), ("drop", "NoGraph"), ("split", "NoEdge"), ("split", "Twice"),
                              ("undo", "NothingDone"), ("count", "NoEdge"), ("through", "NoBlock"), ("least", "Unfit"),
                              ("greatest", "Unfit")}, seen)

    def test_each_request_by_itself(self):
        first = "ran s>a>m>c>t 6\nran s>a>m>d>t 1\nran s>b>m>d>t 3\n"
        for line, expected in (
                ("total", "10"), ("count m>d", "4"), ("through a", "7"), ("least a>m>c", "3"), ("greatest a>m>c", "6"),
                ("deeds", "3"), ("sure", "3 s>a>m>c>t; 1 s>a>m>d>t"), ("counts", "7 3 6 4 6 4 7 3"), ("only", "no"),
                ("graph", "a>m, b>m, c>t, d>t, m>c, m>d, s>a, s>b"), ("forget", "done"), ("undo", "done"),
                ("add 0 0 0 0 0 0 0 0", "done"), ("add 1", "refused NoCounts"), ("add 1 1 1 1 1 1 1 1 1", "refused NoCounts"),
                ("ran s>a>m 1", "refused Unfit"), ("link a>m", "refused Known"), ("link t>s", "refused NoGraph"),
                ("link x>y", "refused NoGraph"), ("link t>v", "refused Unfit"), ("link s>m", "done"),
                ("drop a>c", "refused NoEdge"), ("drop m>c", "refused Unfit"), ("split a>c x", "refused NoEdge"),
                ("split m>c s", "refused Twice"), ("split m>c x", "done"), ("count a>c", "refused NoEdge"),
                ("through x", "refused NoBlock"), ("least a>c", "refused Unfit"), ("greatest c>m", "refused Unfit")):
            self.assertEqual(desk.replies(FORK, first + line), ["done", "done", "done", expected], line)
        self.assertEqual(desk.replies(FORK, "drop m>c\nundo\nonly\nsure"), ["refused NoGraph", "refused NothingDone", "yes", "-"])

    def test_great_numbers(self):
        big = str(GREAT - 1)
        text = "\n".join(["ran zz>aaaaaaaa " + big] * 3 + ["total", "counts", "sure", "add " + big, "total"])
        three, four = str(3 * GREAT - 3), str(4 * GREAT - 4)
        self.assertEqual(desk.replies(ONE_EDGE, text),
                         ["done"] * 3 + [three, three, three + " zz>aaaaaaaa", "done", four])

    def test_sixty_deeds(self):
        lines = ["ran s>t 1"] * 30 + ["forget"] * 30 + ["deeds"] + ["undo"] * 61 + ["deeds", "total"]
        self.assertEqual(desk.replies(SKIP, "\n".join(lines)),
                         ["done"] * 60 + ["60"] + ["done"] * 60 + ["refused NothingDone", "0", "0"])

    def test_the_same_again(self):
        for graph in (LADDER, STAIRS):
            text = "\n".join(self.lines_for(graph, "again"))
            found = desk.replies(graph, text)
            expected = list(found)
            found.append("mine")
            self.assertEqual(desk.replies(text=text, graph=graph), expected)


class Lines(unittest.TestCase):
    def check(self, graph, text, number):
        with self.assertRaises(BadLine) as caught:
            desk.replies(graph, text)
        self.assertEqual(vars(caught.exception), {"number": number}, text)

    def test_the_empty_text_and_line_feeds(self):
        self.assertEqual(desk.replies(FORK, ""), [])
        self.check(FORK, "\n", 0)
        self.check(FORK, "total\n", 1)
        self.check(FORK, "\ntotal", 0)
        self.check(FORK, "total\n\ntotal", 1)
        self.check(FORK, "total\r\ntotal", 0)
        self.check(FORK, " ", 0)
        for sign in ("\r", "\x0b", "\x0c", "\x1c", "\x85", "\u2028", "\u2029"):
            self.check(FORK, "total" + sign + "total", 0)

    def test_the_first_bad_line_comes_ahead_of_all_else(self):
        for line in BAD:
            if "\n" not in line:
                self.check(FORK, "total\ncount z>y\nundo\n" + line, 3)
                if line:
                    self.check(FORK, line, 0)
                self.check(FORK, line + "\ntotal\nlook", 0)
        self.check(FORK, "\n".join(["total"] * 59 + ["ran s>a"]), 59)
        self.check(FORK, "drop m>c\nthrough z\nlink s>s\nlook", 2)


if __name__ == "__main__":
    unittest.main()
