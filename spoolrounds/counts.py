"""Behind which numbers of rounds spots can lie where they were seen."""

from math import gcd

from spoolrounds.returns import Returns
from spoolrounds.stretches import check_spot


def rounds_fit(lay, sights):
    """Just the numbers of rounds that fit all sights (from, to, way), or which sights none fits."""
    check_sights(lay, sights)
    return what_fits([_fitting(lay, start, to, way) for start, to, way in sights])


def check_sights(lay, sights):
    """Refuse sights of what is no spot, the first one of them."""
    for start, to, _ in sights:
        check_spot(start, lay.spots())
        check_spot(to, lay.spots())


def what_fits(rests):
    """What comes of rests (rest, by), each of which stands for the numbers that leave it, and None for none."""
    if None in rests:
        return ("never", rests.index(None))
    # Numbers leave all rests just where they leave each two, so the first
    # rest that leaves none with the ones ahead has one of these to blame.
    for k, rest in enumerate(rests):
        for j, elder in enumerate(rests[:k]):
            if not _agree(elder, rest):
                return ("clash", j, k)
    together = (0, 1)
    for rest in rests:
        together = _both(together, rest)
    return ("fits", together[0], together[1])


def _fitting(lay, start, to, way):
    """The numbers of rounds behind which a spot lies at another one, by a way or by either: (rest, by) or None."""
    found = Returns(lay, [], sorted([(start, 1), (to, 1)]))
    rest = 0
    came = 1
    if start != to:
        _, _, at, came, rest, _ = found.fact_of(start)
        if at != to:
            return None
    _, _, _, round_way, by, _ = found.fact_of(to)
    by = by + rest
    round_way = round_way * came
    if way is None or (way == came and round_way == 1):
        return (rest, by)
    if round_way == 1:
        return None
    # Turned over by one round of the ring, each way comes every other time.
    return (rest if way == came else rest + by, 2 * by)


def _agree(one, other):
    """Whether there are numbers that leave both rests."""
    return (other[0] - one[0]) % gcd(one[1], other[1]) == 0


def _both(one, other):
    """The numbers that leave both of two rests that agree, as one rest."""
    rest, by = one
    shared = gcd(by, other[1])
    further = other[1] // shared
    times = (other[0] - rest) // shared * _inverse(by // shared, further) % further
    return (rest + by * times, by * further)


def _inverse(number, by):
    """How many times a number that shares no divisor with by leaves 1 by by, perhaps below 0."""
    ahead, here = by, number
    times_ahead, times_here = 0, 1
    while here > 0:
        often = ahead // here
        ahead, here = here, ahead - often * here
        times_ahead, times_here = times_here, times_ahead - often * times_here
    return times_ahead
