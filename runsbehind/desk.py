"""A desk: requests put to a Board, line by line, and a reply to each of them."""

from runsbehind.basics import is_name
from runsbehind.board import Board
from runsbehind.errors import BadLine, Known, NoBlock, NoCounts, NoEdge, NoGraph, NothingDone, Twice, Unfit
from runsbehind.texts import counts_in, counts_text, graph_text, is_number_text, is_way, lot_text, path_in

# The words behind the first one of each request; behind add stand as many numbers as one likes, but one at least.
WORDS = {
    "ran": ("path", "number"), "forget": (), "link": ("edge",), "drop": ("edge",), "split": ("edge", "name"),
    "undo": (), "total": (), "count": ("edge",), "through": ("name",), "least": ("path",), "greatest": ("path",),
    "deeds": (), "sure": (), "graph": (), "counts": (), "only": (),
}
DEEDS = ("ran", "add", "forget", "link", "drop", "split", "undo")
TEXTS = ("sure", "graph", "counts", "only")


def is_request(thing):
    """Whether thing is a string that is a request."""
    if not isinstance(thing, str):
        return False
    first, words = thing.split(" ")[0], thing.split(" ")[1:]
    if first == "add":
        return len(words) > 0 and all([is_fit("number", word) for word in words])
    kinds = WORDS.get(first)
    if kinds is None or len(kinds) != len(words):
        return False
    return all([is_fit(kind, word) for kind, word in zip(kinds, words)])


def is_fit(kind, word):
    """Whether the word is of this kind."""
    if kind == "number":
        return len(word) <= 30 and is_number_text(word)
    if kind == "name":
        return is_name(word)
    names = word.split(">")
    return is_way(names) and (kind == "path" or len(names) == 2)


def replies(graph, text):
    """The list of the replies to the lines of the text; raises BadLine for the first one that is no request."""
    lines = text.split("\n") if text else []
    for number, line in enumerate(lines):
        if not is_request(line):
            raise BadLine(number)
    board = Board(graph)
    return [reply(board, line.split(" ")) for line in lines]


def reply(board, words):
    """The reply to the request of these words."""
    try:
        return answer(board, words[0], words[1:])
    except NoBlock:
        return "refused NoBlock"
    except NoEdge:
        return "refused NoEdge"
    except NothingDone:
        return "refused NothingDone"
    except Known:
        return "refused Known"
    except Twice:
        return "refused Twice"
    except NoGraph:
        return "refused NoGraph"
    except NoCounts:
        return "refused NoCounts"
    except Unfit:
        return "refused Unfit"


def answer(board, first, words):
    """The reply to the request that is not refused."""
    if first in DEEDS:
        do(board, first, words)
        return "done"
    if first in TEXTS:
        return text_of(board, first)
    return str(number_of(board, first, words))


def do(board, first, words):
    """The Board does the deed."""
    if first == "ran":
        board.ran(path_in(words[0]), int(words[1]))
    elif first == "add":
        board.add(counts_in(" ".join(words)))
    elif first == "forget":
        board.forget()
    elif first == "link":
        board.link(path_in(words[0]))
    elif first == "drop":
        board.drop(path_in(words[0]))
    elif first == "split":
        board.split(path_in(words[0]), words[1])
    else:
        board.undo()


def text_of(board, first):
    """The text of what is asked of the Board."""
    if first == "sure":
        return lot_text(board.sure())
    if first == "graph":
        return graph_text(board.graph())
    if first == "counts":
        return counts_text(board.counts())
    return "yes" if board.is_only() else "no"


def number_of(board, first, words):
    """The number that is asked of the Board."""
    if first == "count":
        return board.count(path_in(words[0]))
    if first == "through":
        return board.through(words[0])
    if first == "least":
        return board.least(path_in(words[0]))
    if first == "greatest":
        return board.greatest(path_in(words[0]))
    return len(board) if first == "deeds" else board.total()
