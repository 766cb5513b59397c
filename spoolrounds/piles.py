"""Piles of stretches that are wound as wholes, until they lie in a told order."""

from spoolrounds.spans import least_number
from spoolrounds.stretches import cut
from spoolrounds.threads import about, yards
from spoolrounds.windings import wound_whole


class Piles:
    """The rows on three spools or more, and the windings by which they came there."""

    def __init__(self, rows):
        self._rows = rows
        self._steps = []

    def steps(self):
        """The windings that were done."""
        return list(self._steps)

    def row(self, spool):
        """What lies on a spool."""
        return self._rows[spool]

    def gather(self):
        """Wind all on the first spool."""
        for spool in range(1, len(self._rows)):
            self._wind(spool, 0, len(self._rows[spool]))

    def sort_as(self, row):
        """Put what was gathered into the order of a row of the same stretches, some of them turned about."""
        for done, stretch in enumerate(reversed(row)):
            if self._rows[0][-1 - done] != stretch:
                self._put_above(done, stretch)

    def _put_above(self, done, stretch):
        """Put a stretch just above the lowest ones that are where they should be."""
        at = [_name(part) for part in self._rows[0]].index(_name(stretch))
        is_turned = self._rows[0][at] != stretch
        self._wind(0, 1, at)
        self._wind(0, 2, 1)
        self._wind(0, 1, len(self._rows[0]) - done)
        # Two windings leave it as it was, three turn it about; what is topmost
        # on the second spool comes to lie lowest.
        self._wind(2, 1 if is_turned else 0, 1)
        self._wind(1, 0, len(self._rows[1]))

    def _wind(self, a, b, many):
        if many > 0:
            self._steps.append(("wind", a, b, yards(self._rows[a][:many])))
            self._rows = wound_whole(self._rows, a, b, many)


def cut_at(row, marks):
    """A row, a tuple, whose stretches are parted ahead of each mark, a number, of their words."""
    out = []
    for stretch in row:
        word, _, many, way = stretch
        parts = cut((least_number(stretch), many, 0, 1), marks[word])
        rising = [(word, first, more, 1) for first, more, _, _ in parts]
        out.extend(rising if way == 1 else [about(part) for part in reversed(rising)])
    return tuple(out)


def _name(stretch):
    """What a stretch is called, whether it is turned about or not."""
    return (stretch[0], least_number(stretch))
