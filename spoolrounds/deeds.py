"""Deeds of a works: what was asked for, the gauge behind it, and how places, (spool, depth), are moved by it."""

from spoolrounds.errors import Uneven
from spoolrounds.gauges import behind_written, place, spot
from spoolrounds.lays import lay_written
from spoolrounds.orbits import Orbits
from spoolrounds.rounds import undone
from spoolrounds.threads import yards


class Put:
    """A row put on the top of a spool."""

    def __init__(self, spool, row, ahead):
        self.told = ("put", spool, tuple(row))
        self._spool = spool
        self._many = yards(row)
        self.behind = _with_more(ahead, spool, self._many)

    def came(self, spool, depth):
        """From where and by which way that came which lies at a place behind the deed; None where it was put there."""
        return _down(spool, depth, self._spool, -self._many)

    def went(self, spool, depth):
        """To where and by which way that went which lies at a place ahead of the deed."""
        return _down(spool, depth, self._spool, self._many)


class Take:
    """So many yards taken off the top of a spool."""

    def __init__(self, spool, many, ahead):
        self.told = ("take", spool, many)
        self._spool = spool
        # Fewer than none are none.
        self._many = max(many, 0)
        self.behind = _with_more(ahead, spool, -self._many)

    def came(self, spool, depth):
        """From where and by which way that came which lies at a place behind the deed."""
        return _down(spool, depth, self._spool, self._many)

    def went(self, spool, depth):
        """To where and by which way that went which lies at a place ahead of the deed; None where it was taken off."""
        return _down(spool, depth, self._spool, -self._many)


class Done:
    """A round done so many times, below 0 backwards."""

    def __init__(self, steps, times, written, ahead):
        self.told = ("do", steps, times)
        done = _steps_of_one_time(written, times)
        self.behind = behind_written(done, ahead)
        if self.behind != ahead and times not in (-1, 1):
            raise Uneven(times)
        self.lay = lay_written(done, ahead)
        self._ahead = ahead
        self._often = abs(times)
        # Gone through when a place is asked for, which may never be.
        self._orbits = None

    def came(self, spool, depth):
        """From where and by which way that came which lies at a place behind the deed."""
        return self._moved(self.behind, self._ahead, spool, depth, -self._often)

    def went(self, spool, depth):
        """To where and by which way that went which lies at a place ahead of the deed."""
        return self._moved(self._ahead, self.behind, spool, depth, self._often)

    def _moved(self, there, here, spool, depth, rounds):
        if self._orbits is None:
            self._orbits = Orbits(self.lay)
        to, way = self._orbits.after(spot(there, spool, depth), rounds)
        return (*place(here, to), way)


def _steps_of_one_time(written, times):
    if times == 0:
        return []
    return written if times > 0 else undone(written)


def _with_more(gauge, spool, many):
    return tuple([lying + many if k == spool else lying for k, lying in enumerate(gauge)])


def _down(spool, depth, moved, many):
    """A place where what lies on one spool is moved down by so many, way 1; None where that is above its top."""
    further = depth + many if spool == moved else depth
    return None if further < 0 else (spool, further, 1)
