"""Thread: yards, stretches of yards and rows of stretches."""

from spoolrounds.errors import NoSpot
from spoolrounds.kinds import is_from_to, is_whole

LETTERS = "abcdefghijklmnopqrstuvwxyz"
LONGEST_WORD = 8
LAST_NUMBER = 10 ** 18


def is_word(thing):
    """Whether it is a text of one to eight small letters."""
    if not isinstance(thing, str):
        return False
    return 1 <= len(thing) <= LONGEST_WORD and all([sign in LETTERS for sign in thing])


def is_stretch(thing):
    """Whether it is a tuple (word, first, many, way) of yards that there can be."""
    if not isinstance(thing, tuple) or len(thing) != 4:
        return False
    word, first, many, way = thing
    if not is_word(word) or not is_whole(many) or not is_whole(way):
        return False
    if many < 1 or way not in (1, -1) or not is_from_to(first, 0, LAST_NUMBER):
        return False
    return is_from_to(last_number(thing), 0, LAST_NUMBER)


def is_row(thing):
    """Whether it is a list of stretches, in whatever form."""
    return isinstance(thing, (list, tuple)) and all([is_stretch(part) for part in thing])


def last_number(stretch):
    """The number of the lowest yard of a stretch."""
    _, first, many, way = stretch
    return first + (many - 1) * way


def joined(row):
    """The one form of a row: no stretch goes on the one ahead of it."""
    out = []
    for stretch in row:
        if out and _goes_on(out[-1], stretch):
            word, first, many, way = out[-1]
            out[-1] = (word, first, many + stretch[2], way)
        else:
            out.append(stretch)
    return out


def _goes_on(ahead, stretch):
    way = ahead[3]
    return (stretch[0], stretch[1], stretch[3]) == (ahead[0], last_number(ahead) + way, way)


def yards(row):
    """How many yards a row has."""
    return sum([stretch[2] for stretch in row])


def turned(row):
    """The row turned about, in its one form."""
    return joined([about(stretch) for stretch in reversed(row)])


def about(stretch):
    """A stretch turned about."""
    word, _, many, way = stretch
    return (word, last_number(stretch), many, -way)


def parted(row, at):
    """The topmost yards of a row, at of them, and the rest, each in its one form."""
    if not is_from_to(at, 0, yards(row)):
        raise NoSpot(at)
    top = []
    rest = []
    left = at
    for word, first, many, way in row:
        cut = min(left, many)
        if cut > 0:
            top.append((word, first, cut, way))
        if cut < many:
            rest.append((word, first + cut * way, many - cut, way))
        left = left - cut
    return (joined(top), joined(rest))


def yard(row, at):
    """The yard that lies below at others in a row: (word, number, way)."""
    rest = parted(row, at)[1]
    if not rest:
        raise NoSpot(at)
    word, first, _, way = rest[0]
    return (word, first, way)


def find(row, word, number):
    """How many yards lie above the topmost yard so called, and its way: (at, way), or None."""
    above = 0
    for name, first, many, way in row:
        ahead = (number - first) * way
        if name == word and 0 <= ahead < many:
            return (above + ahead, way)
        above = above + many
    return None
