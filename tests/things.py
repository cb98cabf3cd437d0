"""What the tests hand in: things of every kind, and webs of every shape."""

from itertools import combinations


class Whole(int):
    """A whole number of a class beneath Python's own."""


class Text(str):
    """A text of a class beneath Python's own."""


class Pair(tuple):
    """A tuple of a class beneath Python's own."""


class Row(list):
    """A list of a class beneath Python's own."""


class Sly(int):
    """A whole number whose signs and methods tell untruths."""

    def __eq__(self, other):
        return True

    def __ne__(self, other):
        return False

    def __lt__(self, other):
        return True

    def __le__(self, other):
        return True

    def __gt__(self, other):
        return True

    def __ge__(self, other):
        return True

    def __int__(self):
        return 1

    def __index__(self):
        return 1

    def __bool__(self):
        return True

    def __add__(self, other):
        return 1

    __radd__ = __sub__ = __rsub__ = __add__

    __hash__ = None


class SlyText(str):
    """A text whose signs and methods tell untruths."""

    def __str__(self):
        return "w"

    def __len__(self):
        return 1

    def __iter__(self):
        return iter("w")

    def __eq__(self, other):
        return True

    __hash__ = None


class Other:
    """A thing of a class that has nothing to do with the program's."""


class Like:
    """A thing that is like everything, and refuses to be a key."""

    def __eq__(self, other):
        return True

    __hash__ = None


def strange_things():
    """Things that are neither whole numbers nor texts, tuples or lists of use."""
    return [None, True, False, "", "w", "0", "1", b"", b"w", (), [], {}, set(), frozenset(), (0,), [0], (0, 1, 2),
            {0: 1}, {0}, object(), Other(), Other, Like(), len, range(2), iter([]), [[]], ((),), [()], ([],),
            NotImplemented, ..., ValueError("no")]


def row_pairs(many):
    """A web's pairs: each place beside the next one."""
    return [(at, at + 1) for at in range(many - 1)]


def ring_pairs(many):
    """A web's pairs: a row whose ends are neighbours, too."""
    return sorted(row_pairs(many) + [(0, many - 1)]) if many > 2 else row_pairs(many)


def star_pairs(many):
    """A web's pairs: all beside the root alone."""
    return [(0, at) for at in range(1, many)]


def all_pairs(many):
    """A web's pairs: all beside all."""
    return list(combinations(range(many), 2))


def shapes(many):
    """The pairs of a row, a ring, a star, of all beside all, and none."""
    return [row_pairs(many), ring_pairs(many), star_pairs(many), all_pairs(many), []]


def subsets(things):
    """Each list of some of the things, in their order."""
    return [list(chosen) for size in range(len(things) + 1) for chosen in combinations(things, size)]


def living_lists(many):
    """Each list of living places, the root in it."""
    return [[0] + others for others in subsets(range(1, many))]


def is_own(told):
    """Whether it is of Python's own kinds throughout, of no class beneath these."""
    if type(told) in (list, tuple):
        return all(is_own(each) for each in told)
    return told is None or type(told) in (int, bool, str)
