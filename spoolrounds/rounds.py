"""Rounds, and books of rounds that name elder ones."""

from spoolrounds.errors import BadName, Known, NoName, NoRound, TooMany
from spoolrounds.kinds import is_from_to
from spoolrounds.threads import is_word

MOST_STEPS = 24
MOST_WRITTEN = 40
MOST_WOUND = 10 ** 18
MOST_TIMES = 9
LAST_SPOOL = 5


def is_round(thing):
    """Whether it is a tuple of few steps, each as told, whatever names they name."""
    return _is_short_tuple(thing) and all([_is_step(step) for step in thing])


def _is_short_tuple(thing):
    return isinstance(thing, tuple) and len(thing) <= MOST_STEPS


def _is_step(thing):
    if not isinstance(thing, tuple) or len(thing) < 2:
        return False
    kind = thing[0]
    told = thing[1:]
    if kind == "wind":
        return len(told) == 3 and _are_two_spools(told[:2]) and is_from_to(told[2], 1, MOST_WOUND)
    if kind == "turn":
        return len(told) == 1 and _is_spool(told[0])
    if kind == "swap":
        return _are_two_spools(told)
    if kind == "do":
        return len(told) == 2 and is_word(told[0]) and is_from_to(told[1], -MOST_TIMES, MOST_TIMES)
    return False


def _are_two_spools(told):
    return len(told) == 2 and _is_spool(told[0]) and _is_spool(told[1]) and told[0] != told[1]


def _is_spool(thing):
    return is_from_to(thing, 0, LAST_SPOOL)


def undone(steps):
    """Written out steps that lead back from where the given ones lead."""
    return [_undone_step(step) for step in reversed(steps)]


def _undone_step(step):
    if step[0] == "wind":
        _, a, b, many = step
        return ("wind", b, a, many)
    return step


class Rounds:
    """A book of rounds: names, each told once, of rounds that name none but elder ones."""

    def __init__(self):
        self._told = {}
        # Each round is kept written out, too: so none is ever followed down
        # through the names that it names, however many deep these go.
        self._plain = {}

    def tell(self, name, steps):
        """Tell the book a name of a round."""
        if not is_word(name):
            raise BadName(name)
        if name in self._told:
            raise Known(name)
        plain = self.written(steps)
        self._told[name] = steps
        self._plain[name] = plain

    def steps(self, name):
        """The round of a name, as it was told."""
        if not self._knows(name):
            raise NoName(name)
        return self._told[name]

    def names(self):
        """All names that are told, by letters."""
        return sorted(self._told)

    def written(self, steps):
        """The steps of a round written out, so that none of them names a round."""
        self._check(steps)
        many = sum([self._how_many(step) for step in steps])
        # Counted ahead of being written, as steps that are refused may be many.
        if many > MOST_WRITTEN:
            raise TooMany(many)
        return [plain for step in steps for plain in self._write(step)]

    def _knows(self, name):
        return is_word(name) and name in self._told

    def _check(self, steps):
        """Refuse what is no round, then a round that names what isn't told."""
        if not _is_short_tuple(steps):
            raise NoRound(None)
        for at, step in enumerate(steps):
            if not _is_step(step):
                raise NoRound(at)
        for step in steps:
            if step[0] == "do" and not self._knows(step[1]):
                raise NoName(step[1])

    def _how_many(self, step):
        if step[0] != "do":
            return 1
        _, name, times = step
        return len(self._plain[name]) * abs(times)

    def _write(self, step):
        if step[0] != "do":
            return [step]
        _, name, times = step
        if times < 0:
            return undone(self._plain[name]) * -times
        return self._plain[name] * times
