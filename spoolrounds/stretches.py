"""Stretches of spots: tuples (from, many), and those that are led, (from, many, to, way).

What is led may be told more of behind these four; that is left aside here.
"""

from spoolrounds.errors import NoSpot
from spoolrounds.kinds import is_from_to


def is_within(first, many, total):
    """Whether there are such spots, one at least, in a row of so many."""
    return many >= 1 and first >= 0 and first + many <= total


def lies_in(inner, outer):
    """Whether all spots of a stretch are spots of another one."""
    return outer[0] <= inner[0] and inner[0] + inner[1] <= outer[0] + outer[1]


def check_spot(spot, total):
    """Refuse what is no spot, of anything, of a row of so many."""
    if not is_from_to(spot, 0, total - 1):
        raise NoSpot(spot)


def led(piece, first, many):
    """The least spot that a stretch within what is led comes to."""
    start, whole, to, way = piece[:4]
    if way == 1:
        return to + first - start
    return to + start + whole - first - many


def back_of(piece):
    """What is led, backwards."""
    first, many, to, way = piece[:4]
    return (to, many, first, way)


def cut(piece, marks):
    """What is led, parted ahead of each mark, a spot, that lies in it; the marks stand rising."""
    first, many, _, way = piece[:4]
    last = first + many
    out = []
    for end in [mark for mark in marks if first < mark < last] + [last]:
        out.append((first, end - first, led(piece, first, end - first), way))
        first = end
    return out


def goes_on(ahead, piece):
    """Whether what is led goes on what is led ahead of it, as if both were one."""
    if piece[0] != ahead[0] + ahead[1] or piece[3] != ahead[3]:
        return False
    if piece[3] == 1:
        return piece[2] == ahead[2] + ahead[1]
    return piece[2] + piece[1] == ahead[2]


def number_at(stretches, spot):
    """The number of the last of the rising stretches that begins at a spot or ahead of it, or -1."""
    low = -1
    high = len(stretches)
    while high - low > 1:
        middle = (low + high) // 2
        if stretches[middle][0] <= spot:
            low = middle
        else:
            high = middle
    return low


def one_at(stretches, spot):
    """The last of the rising stretches that begins at a spot or ahead of it, or None."""
    at = number_at(stretches, spot)
    return None if at < 0 else stretches[at]


def fused(stretches):
    """Rising stretches, those that touch as one."""
    out = []
    for first, many in stretches:
        if out and out[-1][0] + out[-1][1] == first:
            out[-1] = (out[-1][0], out[-1][1] + many)
        else:
            out.append((first, many))
    return out


def gaps(stretches, total):
    """The stretches of a row of so many spots that lie between rising ones."""
    out = []
    end = 0
    for first, many in [*stretches, (total, 0)]:
        if end < first:
            out.append((end, first - end))
        end = first + many
    return out


def ends_of(stretches):
    """The spots at which stretches begin and those just behind them, rising, each once."""
    return sorted(set([first for first, _ in stretches] + [first + many for first, many in stretches]))


def seen_in(spans, first, many):
    """1 of a stretch all within one of the rising spans, 0 of one outside of all, else None."""
    at = number_at(spans, first + many - 1)
    if at < 0 or spans[at][0] + spans[at][1] <= first:
        return 0
    return 1 if lies_in((first, many), spans[at]) else None
