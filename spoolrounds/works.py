"""Works: spools on which rows are put, of which yards are taken, at which rounds are done."""

from spoolrounds.deeds import Done, Put, Take
from spoolrounds.errors import Known, NoDeed, NoSpool, NoStretch, NoYard, TooFew, TooMany
from spoolrounds.gauges import MOST_YARDS, spot
from spoolrounds.kinds import is_from_to, is_whole
from spoolrounds.rounds import Rounds
from spoolrounds.spans import first_again, spans_of
from spoolrounds.threads import find, is_stretch, joined, yard, yards

MOST_TOLD = 60


class Works:
    """Spools, bare at first, a book of rounds, and the deeds that stand.

    No deed changes what is kept: what lies somewhere is told by going from
    deed to deed, as far as is asked, each time.
    """

    def __init__(self, spools):
        self._bare = (0,) * spools
        self._book = Rounds()
        self._deeds = []

    def tell(self, name, steps):
        """Tell the book a name of a round."""
        self._book.tell(name, steps)

    def put(self, spool, row):
        """Put a row on the top of a spool."""
        if not isinstance(row, (list, tuple)):
            raise NoStretch(None)
        for at, stretch in enumerate(row):
            if not is_stretch(stretch):
                raise NoStretch(at)
        self._check_spool(spool)
        ever_put = [stretch for deed in self._deeds if deed.told[0] == "put" for stretch in deed.told[2]]
        again = first_again(row, spans_of(ever_put))
        if again is not None:
            raise Known(again)
        many = sum(self.gauge()) + yards(row)
        if many > MOST_YARDS:
            raise TooMany(many)
        self._deeds.append(Put(spool, joined(row), self.gauge()))

    def take(self, spool, many):
        """Take so many yards off the top of a spool."""
        self._check_spool(spool)
        lying = self.gauge()[spool]
        if many > lying:
            raise TooFew(lying)
        self._deeds.append(Take(spool, many, self.gauge()))

    def do(self, steps, times=1):
        """Do a round so many times, below 0 backwards."""
        self._deeds.append(self._done(steps, times))

    def undo(self):
        """Take back the last deed."""
        if not self._deeds:
            raise NoDeed("no deed stands")
        self._deeds.pop()

    def laying(self, steps):
        """The laying of a round that is even at the gauge now, refused as if it were done twice."""
        return self._done(steps, 2).lay

    def gauge(self, *, upto=None):
        """How many yards lie on each spool."""
        return self._lying(self._stand(upto))

    def yard(self, spool, depth, *, upto=None):
        """The yard at a place: (word, number, way)."""
        stand = self._stand(upto)
        # Asked for its refusal alone.
        spot(self._lying(stand), spool, depth)
        return self._traced(spool, depth, stand)

    def where(self, word, number, *, upto=None):
        """Where a yard lies and which way up: (spool, depth, way), or None where it was taken off."""
        stand = self._stand(upto)
        for at, deed in enumerate(self._deeds[:stand]):
            found = _put_place(deed, word, number)
            if found is not None:
                return self._led(at + 1, stand, *found)
        raise NoYard((word, number))

    def top(self, spool, many, *, upto=None):
        """The row of the topmost yards of a spool, at most so many, at most sixty."""
        stand = self._stand(upto)
        self._check_spool(spool)
        most = min(many, MOST_TOLD, self._lying(stand)[spool])
        singly = [self._traced(spool, depth, stand) for depth in range(most)]
        return joined([(word, number, 1, way) for word, number, way in singly])

    def deeds(self):
        """The deeds that stand, as they were asked for."""
        return [deed.told for deed in self._deeds]

    def __len__(self):
        return len(self._deeds)

    def _check_spool(self, spool):
        if not is_from_to(spool, 0, len(self._bare) - 1):
            raise NoSpool(spool)

    def _stand(self, upto):
        """Of how many deeds is asked."""
        if upto is None:
            return len(self._deeds)
        if not is_from_to(upto, 0, len(self._deeds)):
            raise NoDeed("no such deed")
        return upto

    def _lying(self, stand):
        """The gauge behind so many deeds."""
        return self._deeds[stand - 1].behind if stand > 0 else self._bare

    def _done(self, steps, times):
        return Done(steps, times, self._book.written(steps), self.gauge())

    def _traced(self, spool, depth, stand):
        """The yard at a place behind so many deeds, one of which put it."""
        way = 1
        for deed in reversed(self._deeds[:stand]):
            place = deed.came(spool, depth)
            if place is None:
                word, number, its_way = yard(deed.told[2], depth)
                return (word, number, way * its_way)
            spool, depth, more = place
            way = way * more

    def _led(self, at, stand, spool, depth, way):
        """Where that lies behind so many deeds which lay at a place ahead of the one numbered at; None of none."""
        for deed in self._deeds[at:stand]:
            place = deed.went(spool, depth)
            if place is None:
                return None
            spool, depth, more = place
            way = way * more
        return (spool, depth, way)


def _put_place(deed, word, number):
    """Where a deed put a yard, and which way up: (spool, depth, way), or None."""
    if deed.told[0] != "put" or not is_whole(number):
        return None
    _, spool, row = deed.told
    found = find(row, word, number)
    return None if found is None else (spool, *found)
