"""Texts of GRAPHS, PATHS, COUNTS and LOTS, written and read."""

from runsbehind.basics import is_ascending, is_name
from runsbehind.errors import BadText
from runsbehind.graphs import is_graph


def graph_text(graph):
    """The text of the GRAPH: its EDGES with a comma and a blank between two."""
    return ", ".join([path_text(edge) for edge in graph])


def path_text(path):
    """The text of the NAMES, with > between two."""
    return ">".join(path)


def counts_text(counts):
    """The text of the numbers, with a blank between two."""
    return " ".join([str(number) for number in counts])


def lot_text(lot):
    """The text of the pairs (NAMES, number): number first, with a semicolon and a blank between two pairs."""
    if not lot:
        return "-"
    return "; ".join([str(number) + " " + path_text(names) for names, number in lot])


def is_number_text(word):
    """Whether the word is the text of a number from 0."""
    # Only these digits count, so a test for digits of whatever alphabet would not do.
    if not word or not all(["0" <= sign <= "9" for sign in word]):
        return False
    return word == "0" or word[0] != "0"


def is_way(names):
    """Whether these are two or more NAMES, none twice."""
    return len(names) > 1 and all([is_name(name) for name in names]) and len(set(names)) == len(names)


def graph_in(text):
    """The GRAPH with this text; raises BadText if there is none."""
    edges = tuple([tuple(part.split(">")) for part in text.split(", ")])
    if not is_graph(edges):
        raise BadText()
    return edges


def path_in(text):
    """The tuple of NAMES with this text; raises BadText if there is none."""
    names = tuple(text.split(">"))
    if not is_way(names):
        raise BadText()
    return names


def counts_in(text):
    """The tuple of numbers with this text; raises BadText if there is none."""
    words = text.split(" ")
    if not all([is_number_text(word) for word in words]):
        raise BadText()
    return tuple([int(word) for word in words])


def lot_in(text):
    """The tuple of pairs (NAMES, number) with this text; raises BadText if there is none."""
    if text == "-":
        return ()
    lot = tuple([share_in(part) for part in text.split("; ")])
    if not is_ascending([names for names, _ in lot]):
        raise BadText()
    return lot


def share_in(text):
    """The pair (NAMES, number from 1) with this text; raises BadText if there is none."""
    number, _, way = text.partition(" ")
    if not is_number_text(number) or number == "0":
        raise BadText()
    return path_in(way), int(number)
