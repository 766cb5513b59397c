"""Standings: the rows that lie on all spools, and windings that lead from one standing to another one."""

from spoolrounds.errors import NoStanding, TooMany
from spoolrounds.gauges import check_step, is_gauge
from spoolrounds.piles import Piles, cut_at
from spoolrounds.spans import are_once, spans_of
from spoolrounds.stretches import ends_of, fused
from spoolrounds.threads import is_row, joined, turned, yards
from spoolrounds.windings import wound_on, wound_whole

MOST_SEARCHED_YARDS = 4
MOST_SEARCHED_SPOOLS = 3


def is_standing(thing):
    """Whether it is a tuple of a few rows, tuples in their one form, of not too many yards, none twice."""
    if not isinstance(thing, tuple) or not all([_is_tuple_row(row) for row in thing]):
        return False
    spans = _spans(thing)
    return is_gauge(_gauge(thing)) and all([are_once(spans[word]) for word in spans])


def wound(standing, steps):
    """The standing that a standing comes to by steps that name no round."""
    rows = standing
    for at, step in enumerate(steps):
        check_step(step, _gauge(rows), at)
        rows = wound_on(rows, step)
    return tuple([tuple(row) for row in rows])


def way_there(one, other):
    """Windings that lead from one standing to another one, or None where none do."""
    _check(one, other)
    if len(one) == 2:
        return _way_across(one, other)
    spans = _spans(one + other)
    marks = {word: ends_of(spans[word]) for word in spans}
    from_one = Piles([cut_at(row, marks) for row in one])
    from_other = Piles([cut_at(row, marks) for row in other])
    from_one.gather()
    from_other.gather()
    from_one.sort_as(from_other.row(0))
    # What leads the other one there leads back to it, the other way about.
    return from_one.steps() + [("wind", b, a, many) for _, a, b, many in reversed(from_other.steps())]


def fewest(one, other):
    """The fewest windings that lead from one small standing to another one, or None where none do."""
    _check(one, other)
    many = sum(_gauge(one))
    if many > MOST_SEARCHED_YARDS or len(one) > MOST_SEARCHED_SPOOLS:
        raise TooMany(many)
    return _searched(_of_single_yards(one), _of_single_yards(other))


def _check(one, other):
    """Refuse what are no two standings of the same yards on as many spools."""
    if not is_standing(one):
        raise NoStanding("one")
    if not is_standing(other):
        raise NoStanding("other")
    if len(one) != len(other) or _all_yards(one) != _all_yards(other):
        raise NoStanding("yards")


def _is_tuple_row(thing):
    return isinstance(thing, tuple) and is_row(thing) and joined(thing) == list(thing)


def _gauge(rows):
    return tuple([yards(row) for row in rows])


def _spans(rows):
    """The numbers of the yards of several rows, by their words."""
    return spans_of([stretch for row in rows for stretch in row])


def _all_yards(standing):
    spans = _spans(standing)
    return {word: fused(spans[word]) for word in spans}


def _way_across(one, other):
    """The way there on two spools, of which a winding never changes the row across."""
    if _across(one) != _across(other):
        return None
    many = yards(one[0]) - yards(other[0])
    if many == 0:
        return []
    return [("wind", 0, 1, many) if many > 0 else ("wind", 1, 0, -many)]


def _across(standing):
    return joined([*turned(standing[0]), *standing[1]])


def _of_single_yards(standing):
    """The standing's rows with each yard as a stretch of its own."""
    spans = _spans(standing)
    marks = {word: [number for first, many in spans[word] for number in range(first, first + many)] for word in spans}
    return tuple([cut_at(row, marks) for row in standing])


def _searched(start, goal):
    """The fewest windings from rows of single yards to others, or None where none lead there."""
    # What was come to, by which winding from where.
    came = {start: None}
    found = [start]
    at = 0
    while at < len(found) and goal not in came:
        rows = found[at]
        for step in _all_windings(rows):
            _, a, b, many = step
            made = wound_whole(rows, a, b, many)
            if made not in came:
                came[made] = (rows, step)
                found.append(made)
        at += 1
    return _steps_to(goal, came) if goal in came else None


def _all_windings(rows):
    spools = range(len(rows))
    return [("wind", a, b, many + 1) for a in spools for b in spools if a != b for many in range(len(rows[a]))]


def _steps_to(goal, came):
    steps = []
    at = goal
    while came[at] is not None:
        at, step = came[at]
        steps.append(step)
    return list(reversed(steps))
