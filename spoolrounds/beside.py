"""Rounds beside one another: neighbours that are parted, layings in either order, one laying done many times."""

from spoolrounds.comings import visit
from spoolrounds.counts import rounds_fit
from spoolrounds.lays import Lay
from spoolrounds.rings import bases_of
from spoolrounds.stretches import back_of, check_spot, cut, gaps, led


def side_by_side(lay, spot):
    """Behind how many rounds a spot and the next one are parted, or None where they never are."""
    # The last spot has no next one.
    check_spot(spot, lay.spots() - 1)
    moment = visit(_of_neighbours(lay), _ends(lay), spot, 1)
    return None if moment is None else moment + 1


def either_order(one, other):
    """The least spot that two layings, done in either order, lead otherwise; None where there is none."""
    for piece, against in zip(one.then(other).pieces(), other.then(one).pieces()):
        if piece != against:
            first = piece[0]
            many = min(piece[1], against[1])
            alike = led(piece, first, 1) == led(against, first, 1) and piece[3] == against[3]
            # Where both lead a first part alike, the shorter one of them ends ahead of what isn't led alike.
            return first + many if alike else first
    return None


def done(lay, other):
    """The numbers of times that the other laying comes to this one, or spots that no number leads so."""
    apart = either_order(lay, other)
    if apart is not None:
        # What leads a spot and the one that it comes to as the other laying
        # done so often would lead the first one alike in either order.
        return ("none", sorted(set([apart, other.goes(apart)[0]])))
    spots = first_spots(lay, bases_of(other))
    told = rounds_fit(other, sights_of(lay, spots))
    if told[0] == "fits":
        return ("times", told[1], told[2])
    return ("none", [spots[k] for k in told[1:]])


def first_spots(lay, bases):
    """The first spots of the parts into which a laying's pieces part bases, rising."""
    starts = [piece[0] for piece in lay.pieces()]
    return [part[0] for base in bases for part in cut(base, starts)]


def sights_of(lay, spots):
    """Where a laying leads spots, as sights of another one done some number of times."""
    return [(spot, *lay.goes(spot)) for spot in spots]


def _of_neighbours(lay):
    """Neighbours as spots, the upper one's, and the laying of them while they stay neighbours.

    Those that are parted are led wherever room is left.
    """
    ends = _ends(lay)
    pieces = [(first, many - 1, to, way) for first, many, to, way in lay.pieces() if many > 1]
    room = gaps(sorted([back_of(piece)[:2] for piece in pieces]), lay.spots() - 1)
    free = [spot for first, many in room for spot in range(first, first + many)]
    parted = [(end[0], 1, to, 1) for end, to in zip(ends, free)]
    return Lay(lay.spots() - 1, pieces + parted)


def _ends(lay):
    """The spots at which pieces end, but for the last one: a lot of neighbours that are parted at once."""
    return [(first + many - 1, 1) for first, many, _, _ in lay.pieces()[:-1]]
