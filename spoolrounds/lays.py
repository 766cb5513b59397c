"""Layings: where each spot of a row is led to, and which way."""

from spoolrounds.errors import NoLay
from spoolrounds.gauges import behind_written
from spoolrounds.kinds import are_whole, is_from_to
from spoolrounds.stretches import back_of, check_spot, cut, goes_on, is_within, led, one_at
from spoolrounds.threads import joined, parted, turned, yards
from spoolrounds.windings import wound_on

MOST_SPOTS = 2 * 10 ** 18


class Lay:
    """A laying of a row of spots by pieces (from, many, to, way). It never changes."""

    def __init__(self, total, pieces):
        if not is_from_to(total, 0, MOST_SPOTS):
            raise NoLay("total")
        if not _are_pieces(pieces, total):
            raise NoLay("pieces")
        if not _fill(pieces, total) or not _fill([back_of(piece) for piece in pieces], total):
            raise NoLay("fill")
        self._total = total
        self._pieces = _one_form(sorted(pieces))

    def pieces(self):
        """The pieces in their one form."""
        return list(self._pieces)

    def spots(self):
        """How many spots the row has."""
        return self._total

    def goes(self, spot):
        """To which spot a spot is led, and by which way."""
        check_spot(spot, self._total)
        piece = one_at(self._pieces, spot)
        return (led(piece, spot, 1), piece[3])

    def then(self, other):
        """This laying done, then another one."""
        if other.spots() != self._total:
            raise NoLay("total")
        further = other.pieces()
        starts = [piece[0] for piece in further]
        made = []
        for piece in self._pieces:
            for to, many, first, way in cut(back_of(piece), starts):
                on = one_at(further, to)
                made.append((first, many, led(on, to, many), way * on[3]))
        return Lay(self._total, made)

    def back(self):
        """This laying backwards."""
        return Lay(self._total, [back_of(piece) for piece in self._pieces])

    def doubled(self):
        """The laying of the spots one way up and the other way up, with no piece of way -1."""
        # Of too many spots there is no laying.
        total = 2 * self._total
        made = []
        for first, many, to, way in self._pieces:
            other_first = total - first - many
            other_to = total - to - many
            if way == 1:
                made.extend([(first, many, to, 1), (other_first, many, other_to, 1)])
            else:
                made.extend([(first, many, other_to, 1), (other_first, many, to, 1)])
        return Lay(total, made)

    def __eq__(self, other):
        return isinstance(other, Lay) and self._pieces == other._pieces

    def __len__(self):
        return len(self._pieces)


def _are_pieces(thing, total):
    return isinstance(thing, (list, tuple)) and all([_is_piece(part, total) for part in thing])


def _is_piece(thing, total):
    if not are_whole(thing, 4):
        return False
    first, many, to, way = thing
    return way in (1, -1) and is_within(first, many, total) and is_within(to, many, total)


def _fill(pieces, total):
    """Whether the stretches that are led fill the row just once."""
    end = 0
    for piece in sorted(pieces):
        if piece[0] != end:
            return False
        end = end + piece[1]
    return end == total


def _one_form(rising):
    out = []
    for piece in rising:
        if out and goes_on(out[-1], piece):
            first, many, to, way = out[-1]
            out[-1] = (first, many + piece[1], min(to, piece[2]), way)
        else:
            out.append(piece)
    return out


def lay_of(rounds, steps, gauge):
    """The laying of the spots of a gauge by a round."""
    return lay_written(rounds.written(steps), gauge)


def lay_written(written, gauge):
    """The laying of the spots of a gauge by written out steps."""
    # Asked for its refusals alone.
    behind_written(written, gauge)
    # Each spot goes as a yard that is numbered as the spot is.
    rows = [[("spot", sum(gauge[:spool]), many, 1)] if many > 0 else [] for spool, many in enumerate(gauge)]
    for step in written:
        rows = wound_on(rows, step)
    made = []
    to = 0
    for row in rows:
        for _, first, many, way in row:
            made.append((min(first, first + (many - 1) * way), many, to, way))
            to = to + many
    return Lay(to, made)


def laid(lay, row):
    """The row that a row of stretches comes to when it is laid so."""
    if yards(row) != lay.spots():
        raise NoLay("total")
    out = []
    for first, many, _, way in sorted(lay.pieces(), key=lambda piece: piece[2]):
        part = parted(parted(row, first)[1], many)[0]
        out.extend(part if way == 1 else turned(part))
    return joined(out)
