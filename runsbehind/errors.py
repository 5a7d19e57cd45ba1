"""The errors of the package, each directly under the class of Python's own that the interface names."""


class NoBlock(LookupError):
    """The GRAPH has no such block."""

    def __init__(self, block):
        LookupError.__init__(self, block)
        self.block = block


class NoEdge(LookupError):
    """The GRAPH has no such EDGE."""

    def __init__(self, edge):
        LookupError.__init__(self, edge)
        self.edge = edge


class NoNumber(LookupError):
    """Nothing has this number."""

    def __init__(self, number):
        LookupError.__init__(self, number)
        self.number = number


class NoDay(LookupError):
    """There is no such day."""

    def __init__(self, day):
        LookupError.__init__(self, day)
        self.day = day


class NothingDone(LookupError):
    """There is no deed that can be undone."""

    def __init__(self):
        LookupError.__init__(self)


class Known(ValueError):
    """The GRAPH has this EDGE already."""

    def __init__(self, edge):
        ValueError.__init__(self, edge)
        self.edge = edge


class Twice(ValueError):
    """The GRAPH has a block of this NAME already."""

    def __init__(self, name):
        ValueError.__init__(self, name)
        self.name = name


class NoGraph(ValueError):
    """The EDGES are no GRAPH."""

    def __init__(self):
        ValueError.__init__(self)


class NoCounts(ValueError):
    """The numbers are no COUNTS of the GRAPH."""

    def __init__(self):
        ValueError.__init__(self)


class NoLot(ValueError):
    """There is no such LOT."""

    def __init__(self):
        ValueError.__init__(self)


class Unfit(ValueError):
    """What was given does not fit what is asked."""

    def __init__(self):
        ValueError.__init__(self)


class BadText(ValueError):
    """Nothing has this text."""

    def __init__(self):
        ValueError.__init__(self)


class BadLine(ValueError):
    """The line with this number is no request."""

    def __init__(self, number):
        ValueError.__init__(self, number)
        self.number = number
