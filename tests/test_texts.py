"""Promise [17]: texts written and read back, and texts that are bent at one sign, beside a grammar of their own."""

import random
import re
import unittest

from runsbehind import texts
from runsbehind.errors import BadText

from tests import oracle
from tests.oracle import DEEP, FORK, GRAPHS, LADDER, ONE_EDGE, SKIP, STAIRS
from tests.test_counts import SMALL

GREAT = 10 ** 30
NAME = "[a-z]{1,8}"
NUMBER = "(?:0|[1-9][0-9]*)"
WAY = NAME + "(?:>" + NAME + ")+"
# Signs that are put in, or in the place of others: near ones, blanks, digits of other alphabets, none at all.
SIGNS = ["", " ", "  ", ",", ", ", ";", "; ", ">", ">>", "-", "+", "_", ".", "a", "z", "A", "0", "1", "9", "00", "\n",
         "\t", "\r", "\x00", "~", "\u00e9", "\u0430", "\u0663", "\uff11", "\u00b2", "\u2028", "\u00a0", "s>t", "aaaaaaaa"]


def way_of(word):
    """The NAMES of a text, or None."""
    if re.fullmatch(WAY, word) is None:
        return None
    names = tuple(word.split(">"))
    return names if len(set(names)) == len(names) else None


def graph_of(text):
    if re.fullmatch(f"{NAME}>{NAME}(?:, {NAME}>{NAME})*", text) is None:
        return None
    edges = tuple(tuple(part.split(">")) for part in text.split(", "))
    return edges if oracle.is_graph(edges) else None


def counts_of(text):
    if re.fullmatch(f"{NUMBER}(?: {NUMBER})*", text, re.ASCII) is None:
        return None
    return tuple(int(word) for word in text.split(" "))


def lot_of(text):
    if text == "-":
        return ()
    if re.fullmatch(f"[1-9][0-9]* {WAY}(?:; [1-9][0-9]* {WAY})*", text, re.ASCII) is None:
        return None
    pairs = tuple((way_of(part.split(" ")[1]), int(part.split(" ")[0])) for part in text.split("; "))
    names = [pair[0] for pair in pairs]
    return pairs if None not in names and names == sorted(set(names)) else None


KINDS = ((texts.graph_in, texts.graph_text, graph_of), (texts.path_in, texts.path_text, way_of),
         (texts.counts_in, texts.counts_text, counts_of), (texts.lot_in, texts.lot_text, lot_of))


def bent(text, seed, many):
    """So many texts that are like this one but at one place."""
    chance = random.Random(seed)
    for _ in range(many):
        at = chance.randint(0, len(text))
        sign = chance.choice(SIGNS)
        kind = chance.randint(0, 2)
        yield text[:at] + sign + text[at + (kind > 0):]
    if len(text) < 40:
        for at in range(len(text) + 1):
            for sign in SIGNS:
                yield text[:at] + sign + text[at:]
                yield text[:at] + sign + text[at + 1:]


def samples(turn):
    """Texts of this kind of things."""
    if turn == 0:
        return [texts.graph_text(graph) for graph in list(GRAPHS) + SMALL[::4] + oracle.some_graphs("texts", 10)]
    if turn == 1:
        return [texts.path_text(path) for graph in (FORK, LADDER, ONE_EDGE) for path in oracle.all_paths(graph)[::29]]
    if turn == 2:
        return ["0", "10", "7 0 10", str(GREAT)] + [texts.counts_text(oracle.some_counts(graph, 1, GREAT, 20))
                                                    for graph in GRAPHS]
    return ["-", "2 s>t; 10 s>u>t", "1 a>b"] + [texts.lot_text(oracle.some_lot(graph, 2, GREAT, 9)) for graph in GRAPHS]


class Back(unittest.TestCase):
    def test_graphs(self):
        for graph in list(GRAPHS) + SMALL + oracle.some_graphs("back", 60):
            text = ", ".join(f"{one}>{other}" for one, other in graph)
            self.assertEqual(texts.graph_text(graph), text)
            self.assertEqual(texts.graph_text(oracle.as_lists(graph)), text)
            self.assertEqual(repr(texts.graph_in(text)), repr(graph))

    def test_paths(self):
        for graph in (FORK, LADDER, STAIRS, SKIP):
            for path in oracle.all_paths(graph)[::3]:
                self.assertEqual(texts.path_text(path), ">".join(path))
                self.assertEqual(texts.path_text(list(path)), ">".join(path))
                self.assertEqual(repr(texts.path_in(texts.path_text(path))), repr(path))
                # Whatever GRAPH they are of: so these, too.
                self.assertEqual(texts.path_in(texts.path_text(path[::-1])), path[::-1])
        self.assertEqual(texts.path_in("zebra>a"), ("zebra", "a"))

    def test_counts(self):
        for graph in list(GRAPHS) + oracle.some_graphs("counts", 20):
            for most in (0, 1, 12, GREAT):
                numbers = tuple(random.Random(most).randint(0, most) for _ in graph)
                text = " ".join(map(str, numbers))
                self.assertEqual(texts.counts_text(numbers), text)
                self.assertEqual(texts.counts_text(list(numbers)), text)
                self.assertEqual(repr(texts.counts_in(text)), repr(numbers))
        self.assertEqual(texts.counts_in("1" + "0" * 398), (10 ** 398,))

    def test_lots(self):
        for seed, graph in enumerate(list(GRAPHS) + oracle.some_graphs("lots", 30)):
            for many in (0, 1, 2, 9):
                lot = oracle.some_lot(graph, seed, GREAT, many)
                text = "; ".join(f"{number} {'>'.join(run)}" for run, number in lot) or "-"
                self.assertEqual(texts.lot_text(lot), text)
                self.assertEqual(texts.lot_text(oracle.as_lists(lot)), text)
                self.assertEqual(repr(texts.lot_in(text)), repr(lot))
        self.assertEqual(texts.lot_text([]), "-")
        self.assertEqual(texts.lot_in("1 a>b; 3 a>b>c; 2 b>a"), ((("a", "b"), 1), (("a", "b", "c"), 3), (("b", "a"), 2)))


class Bent(unittest.TestCase):
    def check(self, read, write, known, text):
        expected = known(text)
        try:
            found = read(text)
        except BadText as error:
            self.assertEqual((expected, vars(error)), (None, {}), text)
        else:
            self.assertEqual(repr(found), repr(expected), text)
            self.assertEqual(write(found), text)

    def test_bent_at_one_sign(self):
        for turn, (read, write, known) in enumerate(KINDS):
            good = 0
            for text in samples(turn):
                self.assertIsNotNone(known(text))
                for other in bent(text, text, 300):
                    good += known(other) is not None
                    self.check(read, write, known, other)
            self.assertGreater(good, 20)

    def test_texts_of_other_kinds(self):
        everything = [text for turn in range(4) for text in samples(turn)]
        everything += ["", " ", "\n", "-", "--", "- ", "None", "()", "s>t\n", "s>t, ", ", s>t", "s>t,s>u", "0-1", "+1",
                       "1_000", "1.0", "1e3", "0x1", "\u0661", "\u0661 s>t", "1 s>t;", "1 s>t; ", "1 s>t;2 s>u>t", "s>t",
                       "1  s>t", " 1 s>t", "1 s> t", "1 s>t>s", "1 s", "01 s>t", "0 s>t", "-1 s>t", "-0", "1 -", "-; 1 s>t",
                       "1 s>t; 1 s>t", "2 s>u>t; 10 s>t", "1 s>t; 2 s>t", "a" * 9 + ">b", "a>b>", ">a>b", "a>>b", ">", "a",
                       "A>b", "a>b1", "a>\u0431", "s>u, s>t, u>t", "s>t, s>t", "a>b, b>a", "a>c, b>c", "a>b, a>c",
                       "a>b, c>d", "a>b>c", "a>b, b>c>d", "a>a", "7 00", "00", "0 ", " 0", "0  0", "", "9" * 400]
        for read, write, known in KINDS:
            for text in everything:
                self.check(read, write, known, text)

    def test_bad_text_is_a_value_error(self):
        for read, _, _ in KINDS:
            self.assertRaises(ValueError, read, "")
            self.assertRaises(BadText, read, text="\u00e9")

    def test_great_graphs_are_read(self):
        # Of however many EDGES.
        names = [one + other for one in "abcdefghij" for other in "abcdefghij"]
        edges = tuple(zip(names, names[1:]))
        self.assertEqual(texts.graph_in(texts.graph_text(edges)), edges)
        self.assertEqual(texts.graph_in("a>b"), (("a", "b"),))
        self.assertEqual(texts.graph_in(texts.graph_text(DEEP)), DEEP)


if __name__ == "__main__":
    unittest.main()
