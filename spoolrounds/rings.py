"""Rings: behind how many rounds spots are led to themselves, all rings counted, and bases that show them."""

from math import lcm

from spoolrounds.facts import ROUNDS, SEEN
from spoolrounds.kinds import are_whole
from spoolrounds.papers import is_lot, shows
from spoolrounds.returns import Returns
from spoolrounds.stretches import check_spot


def ring(lay, spot):
    """Behind how many rounds a spot is led to itself, and by which way: (length, way)."""
    check_spot(spot, lay.spots())
    found = Returns(lay, [], [(spot, 1)])
    _, _, _, way, rounds, _ = found.fact_of(spot)
    return (rounds, way)


def rings(lay):
    """All rings, rows (length, way, many), rising."""
    return _counted(bases_of(lay))


def whole(lay):
    """Behind how many rounds each spot is led to itself, by whatever way, and by way 1: (spots, all)."""
    spots = 1
    entire = 1
    for length, way, _ in rings(lay):
        spots = lcm(spots, length)
        entire = lcm(entire, length if way == 1 else 2 * length)
    return (spots, entire)


def rings_paper(lay):
    """Bases that show all rings, and a paper of their lot in which each of them stands: (bases, rows)."""
    bases = bases_of(lay)
    lot = _stretches(bases)
    found = Returns(lay, lot, lot)
    wanted = [found.row_of(first, many) for first, many in lot]
    return (bases, found.writing.needed(wanted))


def shows_rings(lay, told, bases, rows):
    """Whether told are all rings, and the bases and the rows show them."""
    return are_bases(lay, bases, rows) and _are_rings(told) and list(told) == _counted(bases)


def are_bases(lay, bases, rows):
    """Whether the bases show all rings, and the rows show the bases, both of anything."""
    if not isinstance(bases, (list, tuple)) or not all([are_whole(base, 6) for base in bases]):
        return False
    lot = _stretches(bases)
    if not is_lot(lay, lot) or not shows(lay, lot, rows):
        return False
    facts = {fact: True for fact, _ in rows}
    if not all([base in facts and _is_base(base) for base in bases]):
        return False
    return sum([many * rounds for _, many, _, _, rounds, _ in bases]) == lay.spots()


def bases_of(lay):
    """Bases of all rings, rising, each of which goes as one stretch all the way round."""
    found = Returns(lay, [], [])
    pieces = sorted(found.bases)
    return [(first, many, to, way, found.writing.fact(row)[ROUNDS], 1) for first, many, to, way, row in pieces]


def plain_paper(lay):
    """A paper of no lot, without `beside`, in which each of these bases stands with seen 0."""
    found = Returns(lay, [], [])
    wanted = [found.writing.add_part(row, first, many) for first, many, _, _, row in found.bases]
    return found.writing.needed(wanted)


def _stretches(bases):
    return [base[:2] for base in bases]


def _is_base(fact):
    """Whether a fact leads a stretch back onto itself, and none of it is seen on the way."""
    return fact[0] == fact[2] and fact[SEEN] == 1


def _are_rings(thing):
    return isinstance(thing, (list, tuple)) and all([are_whole(part, 3) for part in thing])


def _counted(bases):
    """The rings that bases stand for, rows (length, way, many), rising."""
    many_of = {}
    for _, many, _, way, rounds, _ in bases:
        if way == 1:
            parts = [((rounds, 1), many)]
        else:
            # Spots change places two by two; one in the middle keeps its own.
            parts = [((2 * rounds, 1), many // 2), ((rounds, -1), many & 1)]
        for key, more in parts:
            many_of[key] = many_of.get(key, 0) + more
    return [(length, way, many_of[(length, way)]) for length, way in sorted(many_of) if many_of[(length, way)] > 0]
