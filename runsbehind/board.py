"""A board: a GRAPH and COUNTS of it so far, both changed by deeds that can be undone."""

from runsbehind.basics import plain, steps
from runsbehind.counts import is_counts, throughs
from runsbehind.errors import NoBlock, NoCounts, NoEdge, NothingDone, Unfit
from runsbehind.graphs import entry_of, is_path, is_run, split_edge, with_edge, without_edge
from runsbehind.lots import is_only_lot
from runsbehind.paths import greatest_gone, least_gone, sure_lot


class Board:
    """A GRAPH and COUNTS of it so far, at first all 0."""

    def __init__(self, graph):
        self._graph = plain(graph)
        self._counts = (0,) * len(self._graph)
        # What was ahead of each deed that can be undone: pairs of a GRAPH and its COUNTS.
        self._past = []

    def __eq__(self, other):
        """Whether the other one is a Board with the same GRAPH and the same COUNTS."""
        return isinstance(other, Board) and self._graph == other._graph and self._counts == other._counts

    def __len__(self):
        """How many deeds can be undone."""
        return len(self._past)

    def graph(self):
        """The GRAPH."""
        return self._graph

    def counts(self):
        """The COUNTS so far."""
        return self._counts

    def total(self):
        """The TOTAL of the COUNTS."""
        return throughs(self._graph, self._counts)[entry_of(self._graph)]

    def count(self, edge):
        """The count of this EDGE; raises NoEdge if there is none."""
        many, asked = self._many(), plain(edge)
        if asked not in many:
            raise NoEdge(asked)
        return many[asked]

    def through(self, block):
        """The THROUGH of this block; raises NoBlock if there is none."""
        passed = throughs(self._graph, self._counts)
        if block not in passed:
            raise NoBlock(block)
        return passed[block]

    def least(self, path):
        """How often the PATH was gone at the least; raises Unfit if it is none."""
        return least_gone(self._graph, self._counts, self._need_path(path))

    def greatest(self, path):
        """How often the PATH was gone at the most; raises Unfit if it is none."""
        return greatest_gone(self._graph, self._counts, self._need_path(path))

    def sure(self):
        """The LOT of all RUNS that are surely gone, each with its least number."""
        return sure_lot(self._graph, self._counts)

    def is_only(self):
        """Whether just one LOT has the COUNTS."""
        return is_only_lot(self._graph, self._counts)

    def ran(self, path, number):
        """A RUN was run so many times more; raises Unfit if it is none."""
        run = plain(path)
        if not is_run(self._graph, run):
            raise Unfit()
        gone = steps(run)
        self._go_on(self._graph, [count + number if edge in gone else count for edge, count in self._many().items()])

    def add(self, numbers):
        """The numbers are added to the COUNTS; raises NoCounts if they are none."""
        more = plain(numbers)
        if not is_counts(self._graph, more):
            raise NoCounts()
        self._go_on(self._graph, [count + number for count, number in zip(self._counts, more)])

    def forget(self):
        """All counts become 0."""
        self._go_on(self._graph, [0] * len(self._graph))

    def link(self, edge):
        """An EDGE more, of the count 0; raises Known, then NoGraph, then Unfit if the counts are no COUNTS then."""
        made, many = with_edge(self._graph, edge), self._many()
        numbers = [many.get(known, 0) for known in made]
        if not is_counts(made, tuple(numbers)):
            raise Unfit()
        self._go_on(made, numbers)

    def drop(self, edge):
        """The EDGE goes; raises NoEdge, then Unfit if its count is above 0, then NoGraph."""
        if self.count(edge) > 0:
            raise Unfit()
        made, many = without_edge(self._graph, edge), self._many()
        self._go_on(made, [many[known] for known in made])

    def split(self, edge, name):
        """A new block in the middle of the EDGE, both EDGES with the count of the one; raises NoEdge, then Twice."""
        made, many = split_edge(self._graph, edge, name), self._many()
        self._go_on(made, [many.get(known, many[plain(edge)]) for known in made])

    def undo(self):
        """The last deed that is not undone is undone; raises NothingDone if there is none."""
        if not self._past:
            raise NothingDone()
        before = self._past.pop()
        self._graph = before[0]
        self._counts = before[1]

    def twin(self):
        """An equal Board, with the same deeds to be undone, that shares nothing with this one."""
        mate = Board(self._graph)
        mate._counts = self._counts
        mate._past = list(self._past)
        return mate

    def _many(self):
        """For each EDGE its count, in the order of the EDGES."""
        return dict(zip(self._graph, self._counts))

    def _need_path(self, path):
        """The PATH in tuples; raises Unfit if it is none of the GRAPH."""
        way = plain(path)
        if not is_path(self._graph, way):
            raise Unfit()
        return way

    def _go_on(self, graph, numbers):
        """A deed: the GRAPH and the COUNTS are these from now on."""
        self._past.append((self._graph, self._counts))
        self._graph = graph
        self._counts = tuple(numbers)
