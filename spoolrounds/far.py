"""Where spots are led to behind any number of rounds, and how often they are seen on the way."""

from spoolrounds.facts import ROUNDS, SEEN
from spoolrounds.kinds import are_whole
from spoolrounds.papers import shows
from spoolrounds.returns import Returns
from spoolrounds.stretches import check_spot


def after(lay, spot, rounds):
    """To which spot a spot has been led behind so many rounds, and by which way: (spot, way)."""
    check_spot(spot, lay.spots())
    if rounds == 0:
        return (spot, 1)
    _, _, to, way, _, _ = _far_fact(lay if rounds > 0 else lay.back(), [], spot, abs(rounds))
    return (to, way)


def visits(lay, lot, spot, rounds):
    """At how many of the so many first moments, from that behind 0 rounds on, a spot is in the lot."""
    check_spot(spot, lay.spots())
    if rounds < 1:
        return 0
    return _far_fact(lay, lot, spot, rounds)[SEEN]


def after_paper(lay, lot, spot, rounds):
    """A paper whose last fact is that of the spot alone and so many rounds."""
    check_spot(spot, lay.spots())
    if rounds < 1:
        return []
    writing, row = _far(lay, lot, spot, rounds)
    return writing.needed([row])


def shows_after(lay, lot, spot, rounds, told, rows):
    """Whether told is the (spot, way, seen) of so many rounds, and the rows show it."""
    check_spot(spot, lay.spots())
    if not are_whole(told, 3) or not shows(lay, lot, rows) or not rows:
        return False
    to, way, seen = told
    return rows[-1][0] == (spot, 1, to, way, rounds, seen)


def _far_fact(lay, lot, spot, rounds):
    writing, row = _far(lay, lot, spot, rounds)
    return writing.fact(row)


def _far(lay, lot, spot, rounds):
    """A writing and its row of the spot alone and so many rounds, from 1 on."""
    found = Returns(lay, lot, [(spot, 1)])
    writing = found.writing
    ring = found.row_of(spot, 1)
    loops, left = divmod(rounds, writing.fact(ring)[ROUNDS])
    whole = None
    for row, times in _looped(writing, ring, loops) + writing.along(ring, ROUNDS, left):
        on = writing.add_again(row, times)
        whole = writing.add_part(on, spot, 1) if whole is None else writing.add_then(whole, on)
    return (writing, whole)


def _looped(writing, ring, loops):
    """Rows, each with how often, that lead a spot round its ring so often."""
    out = []
    if loops > 1:
        # What has way -1 is not led again and again, but twice round has way 1.
        out.append((writing.add_then(ring, ring), loops // 2))
    if loops % 2 == 1:
        out.append((ring, 1))
    return out
