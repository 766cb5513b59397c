"""A desk: a works of three spools that is asked and told by rows of text."""

from spoolrounds.comings import comes
from spoolrounds.errors import NoRow, NoSpool, TooFew
from spoolrounds.gauges import place, spot
from spoolrounds.kinds import is_from_to
from spoolrounds.numbertexts import read_number, show_way
from spoolrounds.rings import ring, rings
from spoolrounds.roundtexts import round_of
from spoolrounds.threads import is_word
from spoolrounds.threadtexts import row_of, show_row
from spoolrounds.works import Works

SPOOLS = 3
MOST_FIGURES = 19
# The words that follow the first word of a row; the last may be a text of several.
FORMS = {
    "tell": ("word", "round"), "put": ("number", "row"), "take": ("number", "some"), "go": ("times", "round"),
    "undo": (), "gauge": (), "yard": ("number", "number"), "where": ("word", "number"), "top": ("number", "number"),
    "ring": ("number", "number", "round"), "rings": ("round",),
    "comes": ("number", "number", "number", "some", "round"),
}
BOUNDS = {"number": (0, 10 ** 18), "some": (1, 10 ** 18), "times": (-10 ** 18, 10 ** 18)}


def _tell(works, name, steps):
    works.tell(name, steps)


def _put(works, spool, row):
    works.put(spool, row)


def _take(works, spool, many):
    works.take(spool, many)


def _go(works, times, steps):
    works.do(steps, times)


def _undo(works):
    works.undo()


def _gauge(works):
    return " ".join([str(many) for many in works.gauge()])


def _yard(works, spool, depth):
    word, number, way = works.yard(spool, depth)
    return f"{word} {number} {show_way(way)}"


def _where(works, word, number):
    found = works.where(word, number)
    return "nowhere" if found is None else _show_place(found)


def _show_place(found):
    spool, depth, way = found
    return f"{spool} {depth} {show_way(way)}"


def _top(works, spool, many):
    return show_row(works.top(spool, many))


def _ring(works, spool, depth, steps):
    lay = works.laying(steps)
    length, way = ring(lay, spot(works.gauge(), spool, depth))
    return f"{length} {show_way(way)}"


def _rings(works, steps):
    rows = [f"{length} {show_way(way)} {many}" for length, way, many in rings(works.laying(steps))]
    return ", ".join(rows) if rows else "none"


def _comes(works, spool, depth, other, many, steps):
    lay = works.laying(steps)
    gauge = works.gauge()
    start = spot(gauge, spool, depth)
    if other >= len(gauge):
        raise NoSpool(other)
    if many > gauge[other]:
        raise TooFew(gauge[other])
    found = comes(lay, [(sum(gauge[:other]), many)], start)
    if found is None:
        return "never"
    rounds, to, way = found
    there = _show_place((*place(gauge, to), way))
    return f"{rounds} {there}"


ANSWERS = {
    "tell": _tell, "put": _put, "take": _take, "go": _go, "undo": _undo, "gauge": _gauge, "yard": _yard,
    "where": _where, "top": _top, "ring": _ring, "rings": _rings, "comes": _comes,
}


class Desk:
    """Answers rows; what its works or what is asked of it refuses is refused."""

    def __init__(self):
        self._works = Works(SPOOLS)

    def say(self, row):
        """The answer to a row."""
        read = _read(row)
        if read is None:
            raise NoRow(row)
        kind, told = read
        answer = ANSWERS[kind]
        answered = answer(self._works, *told)
        # What is told or done, not asked, has no answer of its own.
        return "ok" if answered is None else answered


def _read(row):
    """What a row, of anything, asks: (its first word, a list of what the others tell), or None."""
    if not isinstance(row, str):
        return None
    kind = row.partition(" ")[0]
    if kind not in FORMS:
        return None
    form = FORMS[kind]
    words = row.split(" ", len(form))
    if words[0] != kind or len(words) != 1 + len(form):
        return None
    told = [_told_of(part, word) for part, word in zip(form, words[1:])]
    return None if None in told else (kind, told)


def _told_of(part, text):
    """What a text tells as such a part of a row; None where it is none."""
    if part == "round":
        return round_of(text)
    if part == "row":
        return row_of(text)
    if part == "word":
        return text if is_word(text) else None
    low, high = BOUNDS[part]
    number = read_number(text, MOST_FIGURES)
    return number if is_from_to(number, low, high) else None
