"""Gauges: how many yards lie on each spool, and what rounds come to at them."""

from spoolrounds.errors import NoSpot, TooFew
from spoolrounds.kinds import is_from_to, is_whole

FEWEST_SPOOLS = 2
MOST_SPOOLS = 6
MOST_YARDS = 10 ** 18


def is_gauge(thing):
    """Whether it is a tuple of how many yards lie on each of a few spools."""
    if not isinstance(thing, tuple) or not FEWEST_SPOOLS <= len(thing) <= MOST_SPOOLS:
        return False
    return all([is_whole(many) and many >= 0 for many in thing]) and sum(thing) <= MOST_YARDS


def spot(gauge, spool, depth):
    """The number of the spot at a depth of a spool."""
    if not is_from_to(spool, 0, len(gauge) - 1) or not is_from_to(depth, 0, gauge[spool] - 1):
        raise NoSpot((spool, depth))
    return sum(gauge[:spool]) + depth


def place(gauge, spot):
    """The spool and the depth of a spot: (spool, depth)."""
    if not is_from_to(spot, 0, sum(gauge) - 1):
        raise NoSpot(spot)
    spool = 0
    depth = spot
    while depth >= gauge[spool]:
        depth = depth - gauge[spool]
        spool += 1
    return (spool, depth)


def behind(rounds, steps, gauge):
    """The gauge that a round comes to at a gauge."""
    return behind_written(rounds.written(steps), gauge)


def behind_written(written, gauge):
    """The gauge that written out steps come to at a gauge."""
    lying = gauge
    for at, step in enumerate(written):
        check_step(step, lying, at)
        lying = _behind_step(step, lying)
    return tuple(lying)


def check_step(step, lying, at):
    """Refuse a step, which is numbered at, that can't be where so many yards lie on the spools."""
    if not _can_be(step, lying):
        raise TooFew(at)


def is_even(rounds, steps, gauge):
    """Whether a round comes to the gauge at which it is done."""
    return behind(rounds, steps, gauge) == gauge


def _can_be(step, lying):
    if step[0] == "turn":
        return step[1] < len(lying)
    if max(step[1], step[2]) >= len(lying):
        return False
    return step[0] == "swap" or step[3] <= lying[step[1]]


def _behind_step(step, lying):
    made = list(lying)
    if step[0] == "wind":
        _, a, b, many = step
        made[a] -= many
        made[b] += many
    elif step[0] == "swap":
        _, a, b = step
        made[a], made[b] = lying[b], lying[a]
    return made
