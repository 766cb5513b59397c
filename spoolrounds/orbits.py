"""Where spots are led behind any number of rounds, told fast of a laying that is asked of many spots."""

from spoolrounds.facts import ROUNDS
from spoolrounds.returns import Returns
from spoolrounds.stretches import back_of, led, one_at


class Orbits:
    """The rings of a laying: each spot comes, behind some number of rounds, from a spot that a base leads round.

    The laying is gone through once, however many spots are asked of.
    """

    def __init__(self, lay):
        found = Returns(lay, [], [])
        self._writing = found.writing
        # As they were taken away, rising; bases have no span.
        bases = [(first, 0, row, True) for first, _, _, _, row in found.bases]
        self._parts = sorted(found.taken + bases)

    def after(self, spot, rounds):
        """To which spot a spot has been led behind so many rounds, below 0 backwards, and by which way."""
        at, way, row, behind = self._traced(spot)
        base = self._writing.fact(row)
        loops, left = divmod(behind + rounds, base[ROUNDS])
        if loops % 2 == 1:
            at, way = _led_on(base, at, way)
        for further, times in self._writing.along(row, ROUNDS, left):
            fact = self._writing.fact(further)
            if times == 1:
                at, way = _led_on(fact, at, way)
            else:
                at = at + times * (fact[2] - fact[0])
        return (at, way)

    def _traced(self, spot):
        """A spot of a base, by which way and behind how many rounds it comes to a spot, and the base's row."""
        at, way, behind = spot, 1, 0
        low, span, row, brought = one_at(self._parts, at)
        while span > 0:
            fact = self._writing.fact(row)
            times = 1 + (at - low) // span
            behind = behind + (times if brought else -times) * fact[ROUNDS]
            way = way * fact[3]
            if times > 1:
                at = at - times * span
            else:
                at = led(back_of(fact) if brought else fact, at, 1)
            low, span, row, brought = one_at(self._parts, at)
        return (at, way, row, behind)


def _led_on(fact, at, way):
    return (led(fact, at, 1), way * fact[3])
