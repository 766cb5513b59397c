"""Papers that show whether a laying is another one done some number of times."""

from spoolrounds.beside import done, either_order, first_spots, sights_of
from spoolrounds.facts import SEEN
from spoolrounds.fits import fit_papers, what_comes_of
from spoolrounds.kinds import are_whole, is_from_to
from spoolrounds.papers import shows
from spoolrounds.rings import are_bases, plain_paper, rings_paper


def done_paper(lay, other):
    """What shows how often the other laying is done to come to this one, or that it never does."""
    told = done(lay, other)
    if told[0] == "none":
        return fit_papers(other, sights_of(lay, told[1]))
    bases, rows = rings_paper(other)
    papers = fit_papers(other, sights_of(lay, first_spots(lay, bases)))
    return (bases, rows, plain_paper(other), papers)


def shows_done(lay, other, told, paper):
    """Whether told is how often the other laying is done to come to this one, and the paper shows it."""
    apart = either_order(lay, other)
    if not isinstance(told, tuple) or not told:
        return False
    if told[0] == "times":
        return apart is None and _shows_times(lay, other, told, paper)
    return told[0] == "none" and len(told) == 2 and _shows_none(lay, other, told[1], paper)


def _shows_times(lay, other, told, paper):
    if not are_whole(told[1:], 2) or not isinstance(paper, tuple) or len(paper) != 4:
        return False
    bases, rows, plain, papers = paper
    if not are_bases(other, bases, rows) or not _go_as_one(other, bases, plain):
        return False
    return what_comes_of(other, sights_of(lay, first_spots(lay, bases)), papers) == ("fits", *told[1:])


def _go_as_one(lay, bases, plain):
    """Whether the plain paper shows that each base goes as one stretch all the way round."""
    if not shows(lay, [], plain) or any([rule[0] == "beside" for _, rule in plain]):
        return False
    facts = {fact: True for fact, _ in plain}
    return all([(*base[:SEEN], 0) in facts for base in bases])


def _shows_none(lay, other, spots, papers):
    if not isinstance(spots, (list, tuple)) or len(spots) not in (1, 2):
        return False
    if not all([is_from_to(spot, 0, lay.spots() - 1) for spot in spots]):
        return False
    found = what_comes_of(other, sights_of(lay, spots), papers)
    return found is not None and found[0] != "fits"
