"""Checks and conversions that all files of the package share."""


def plain(value):
    """The value with tuples in the place of lists, at any depth."""
    if isinstance(value, (list, tuple)):
        return tuple(plain(part) for part in value)
    return value


def is_number(thing):
    """Whether thing is a number; True and False are none."""
    return isinstance(thing, int) and not isinstance(thing, bool)


def is_name(thing):
    """Whether thing is a NAME."""
    # Only these letters count, so a test for letters of whatever alphabet would not do.
    return isinstance(thing, str) and 1 <= len(thing) <= 8 and all(["a" <= sign <= "z" for sign in thing])


def is_edge(thing):
    """Whether thing is an EDGE."""
    if not isinstance(thing, tuple) or len(thing) != 2:
        return False
    return is_name(thing[0]) and is_name(thing[1]) and thing[0] != thing[1]


def is_ascending(parts):
    """Whether the parts, which can be compared, are ascending, none twice."""
    return all([parts[at] < parts[at + 1] for at in range(len(parts) - 1)])


def is_set_of(known, thing):
    """Whether thing is a set of some of these known ones, which can be compared."""
    return isinstance(thing, tuple) and all([part in known for part in thing]) and is_ascending(thing)


def steps(path):
    """The EDGES of a PATH, in the order in which it goes them."""
    return [(path[at], path[at + 1]) for at in range(len(path) - 1)]


def stands_in(path, run):
    """Whether the blocks of path stand one right behind another in run, which has no block twice."""
    if path[0] not in run:
        return False
    at = run.index(path[0])
    return run[at:at + len(path)] == path


def sets_of(parts, many):
    """The ascending list of all sets of just so many of these parts, which are ascending."""
    found = [()]
    for _ in range(many):
        found = [some + (part,) for some in found for part in parts if not some or some[-1] < part]
    return found
