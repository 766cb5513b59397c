"""Dyes: what each yard shows on its two sides, and what is so shown at a spot."""

from spoolrounds.comings import visit
from spoolrounds.far import after, visits
from spoolrounds.papers import is_lot
from spoolrounds.stretches import check_spot, gaps, one_at
from spoolrounds.threads import is_word


def are_dyes(lay, thing):
    """Whether it is a list of (from, many, face, back) that fill the laying's row once, rising."""
    if not isinstance(thing, (list, tuple)) or not all([_has_words(part) for part in thing]):
        return False
    spans = [part[:2] for part in thing]
    return is_lot(lay, spans) and not gaps(spans, lay.spots())


def shown(lay, dyes, spot, rounds):
    """The word that is shown at a spot behind so many rounds."""
    first, way = after(lay, spot, -rounds)
    _, _, face, back = one_at(dyes, first)
    return face if way == 1 else back


def tally(lay, dyes, spot, rounds):
    """How often each word is shown at a spot at the so many first moments: rows (word, many), rising."""
    check_spot(spot, lay.spots())
    sides = _sides(lay)
    words = sorted(set([word for _, _, face, back in dyes for word in (face, back)]))
    often = [(word, visits(sides, _lot(lay, dyes, word), spot, rounds)) for word in words]
    return [(word, many) for word, many in often if many > 0]


def moment(lay, dyes, spot, word, k):
    """The moment at which a word is shown at a spot for the k-th time, or None where it never is."""
    check_spot(spot, lay.spots())
    return visit(_sides(lay), _lot(lay, dyes, word), spot, k)


def dyes_fit(lay, sights):
    """Which sides must be dyed as sights (rounds, spot, word) tell, or which two clash."""
    for _, spot, _ in sights:
        check_spot(spot, lay.spots())
    seen_by = {}
    word_of = {}
    for k, (rounds, spot, word) in enumerate(sights):
        first, way = after(lay, spot, -rounds)
        side = (first, "face" if way == 1 else "back")
        if side not in word_of:
            seen_by[side] = k
            word_of[side] = word
        elif word_of[side] != word:
            return ("clash", seen_by[side], k)
    return ("fits", [(*side, word_of[side]) for side in sorted(word_of)])


def _has_words(thing):
    """Whether it is a tuple of four, the last two of which are words."""
    return isinstance(thing, tuple) and len(thing) == 4 and is_word(thing[2]) and is_word(thing[3])


def _sides(lay):
    """The laying by which a spot goes back to whence come the sides that it shows, moment by moment."""
    return lay.back().doubled()


def _lot(lay, dyes, word):
    """The spots, of the laying doubled, of the sides that are dyed with a word."""
    faces = [(first, many) for first, many, face, _ in dyes if face == word]
    backs = [(2 * lay.spots() - first - many, many) for first, many, _, back in dyes if back == word]
    return sorted(faces + backs)
