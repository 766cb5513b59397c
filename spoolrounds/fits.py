"""Papers of sights: they show behind which numbers of rounds spots lie where they were seen."""

from spoolrounds.counts import check_sights, what_fits
from spoolrounds.facts import ROUNDS, SEEN
from spoolrounds.kinds import are_whole, is_from_to
from spoolrounds.papers import shows
from spoolrounds.returns import Returns


def fit_papers(lay, sights):
    """A paper (rest, by, rows) of each sight, (None, None, rows) where no number of rounds fits."""
    check_sights(lay, sights)
    return [_paper(lay, sight) for sight in sights]


def shows_fit(lay, sights, told, papers):
    """Whether the papers are such of the sights, and told is what comes of them."""
    check_sights(lay, sights)
    return _is_told(told) and told == what_comes_of(lay, sights, papers)


def what_comes_of(lay, sights, papers):
    """What papers of the sights show of numbers of rounds; None where they are no such papers, of anything."""
    if not isinstance(papers, (list, tuple)) or len(papers) != len(sights):
        return None
    if not all([_is_paper(lay, sight, paper) for sight, paper in zip(sights, papers)]):
        return None
    return what_fits([None if by is None else (rest, by) for rest, by, _ in papers])


def _looked_for(lay, sight):
    """The laying of a sight's paper, the spot it is of, and the spot looked for."""
    start, to, way = sight
    if way is None:
        return (lay, start, to)
    return (lay.doubled(), start, to if way == 1 else 2 * lay.spots() - 1 - to)


def _paper(lay, sight):
    where, start, looked = _looked_for(lay, sight)
    found = Returns(where, [(start, 1)], sorted(set([(start, 1), (looked, 1)])))
    writing = found.writing
    there = found.row_of(start, 1)
    _, _, to, _, rest, _ = writing.fact(there)
    if to != looked:
        # The spot comes back to itself and has not been at the other one.
        never = Returns(where, [(looked, 1)], [(start, 1)])
        return (None, None, never.writing.needed([never.row_of(start, 1)]))
    if start == looked:
        return (0, rest, writing.needed([there]))
    back = writing.add_then(there, found.row_of(looked, 1))
    return (rest, writing.fact(back)[ROUNDS], writing.needed([there, back]))


def _is_paper(lay, sight, thing):
    """Whether it is a paper of a sight."""
    if not isinstance(thing, tuple) or len(thing) != 3:
        return False
    rest, by, rows = thing
    where, start, looked = _looked_for(lay, sight)
    if rest is None and by is None:
        return shows(where, [(looked, 1)], rows) and _leads(rows, start, start, SEEN, 0)
    if not are_whole((rest, by), 2) or not is_from_to(rest, 0, by - 1) or not shows(where, [(start, 1)], rows):
        return False
    if not any([fact[:3] == (start, 1, start) and fact[ROUNDS:] == (by, 1) for fact, _ in rows]):
        return False
    return start == looked if rest == 0 else _leads(rows, start, looked, ROUNDS, rest)


def _leads(rows, start, to, measure, number):
    """Whether a fact leads a spot alone to another one, and tells such a number where the measure says."""
    return any([fact[:3] == (start, 1, to) and fact[measure] == number for fact, _ in rows])


def _is_told(thing):
    """Whether it is a tuple of a word and whole numbers, as numbers of rounds are told."""
    return isinstance(thing, tuple) and are_whole(thing[1:], len(thing) - 1)
