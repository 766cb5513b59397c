"""When spots come to a lot: all first returns to it, and the first and the k-th time that a spot is there."""

from spoolrounds.facts import ROUNDS, SEEN, beside_of
from spoolrounds.kinds import are_whole
from spoolrounds.papers import shows
from spoolrounds.returns import Returns
from spoolrounds.stretches import check_spot, fused, seen_in


def first_table(lay, lot):
    """The first returns to a lot, rows (from, many, rounds, to, way) in their one form."""
    writing, rows = _table(lay, lot)
    return [_as_told(writing.fact(row)) for row in rows]


def table_paper(lay, lot):
    """A paper in which a fact stands for each row of the table of first returns."""
    writing, rows = _table(lay, lot)
    return writing.needed(rows)


def shows_table(lay, lot, table, rows):
    """Whether the table tells the first returns to the lot, in whatever form, and the rows show them."""
    if not isinstance(table, (list, tuple)) or not all([are_whole(part, 5) for part in table]):
        return False
    if not shows(lay, lot, rows):
        return False
    spans = fused(lot)
    shown = {_as_told(fact): True for fact, _ in rows if fact[SEEN] == 1 and seen_in(spans, fact[2], fact[1]) == 1}
    return all([part in shown for part in table]) and fused(sorted([part[:2] for part in table])) == spans


def comes(lay, lot, spot):
    """When, where and which way up a spot comes to a lot: (rounds, spot, way), or None where it never does."""
    check_spot(spot, lay.spots())
    writing, row = _coming(lay, lot, spot)
    _, _, to, way, rounds, _ = writing.fact(row)
    return (rounds, to, way) if _is_in(lot, to) else None


def comes_paper(lay, lot, spot):
    """A paper whose last fact is of the spot alone, as it comes to the lot or else back to itself."""
    check_spot(spot, lay.spots())
    writing, row = _coming(lay, lot, spot)
    return writing.needed([row])


def shows_comes(lay, lot, spot, told, rows):
    """Whether told is when a spot comes to a lot, and the rows show it."""
    check_spot(spot, lay.spots())
    if not shows(lay, lot, rows) or not rows:
        return False
    last = rows[-1][0]
    if told is None:
        return last[:3] == (spot, 1, spot) and last[SEEN] == 0
    if not are_whole(told, 3):
        return False
    rounds, to, way = told
    return last == (spot, 1, to, way, rounds, 1 if _is_in(lot, spot) else 0) and _is_in(lot, to)


def visit(lay, lot, spot, k):
    """Behind how many rounds a spot is in the lot for the k-th time, or None where it never is."""
    check_spot(spot, lay.spots())
    found = Returns(lay, lot, [(spot, 1)])
    writing = found.writing
    ring = found.row_of(spot, 1)
    _, _, _, _, rounds, seen = writing.fact(ring)
    if seen == 0 or k < 1:
        return None
    loops, left = divmod(k - 1, seen)
    parts = writing.along(ring, SEEN, left)
    return loops * rounds + sum([writing.fact(row)[ROUNDS] * times for row, times in parts])


def _table(lay, lot):
    """A writing and its rows of the table of first returns, in its one form."""
    found = Returns(lay, lot, lot)
    writing = found.writing
    out = []
    for row in found.rows_in(0, lay.spots()):
        if out and beside_of(writing.fact(out[-1]), writing.fact(row)) is not None:
            out[-1] = writing.add_beside(out[-1], row)
        else:
            out.append(row)
    return (writing, out)


def _as_told(fact):
    first, many, to, way, rounds, _ = fact
    return (first, many, rounds, to, way)


def _coming(lay, lot, spot):
    """A writing and its row of a spot alone, of its first return to the lot and itself."""
    goal = lot if _is_in(lot, spot) else sorted([*lot, (spot, 1)])
    found = Returns(lay, lot, goal)
    return (found.writing, found.row_of(spot, 1))


def _is_in(lot, spot):
    return seen_in(lot, spot, 1) == 1
