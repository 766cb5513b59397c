"""Which yards rows have: their numbers as stretches (from, many), word by word."""

from spoolrounds.threads import last_number


def least_number(stretch):
    """The least number of a stretch's yards."""
    return min(stretch[1], last_number(stretch))


def spans_of(row):
    """The numbers of a row's yards by their words, each word's rising."""
    found = {}
    for stretch in row:
        found.setdefault(stretch[0], []).append((least_number(stretch), stretch[2]))
    return {word: sorted(found[word]) for word in found}


def are_once(spans):
    """Whether no number is in two of the rising stretches."""
    return all([one[0] + one[1] <= next_one[0] for one, next_one in zip(spans, spans[1:])])


def first_again(row, spans):
    """The first yard of a row, from its top, (word, number), in the spans or ahead of itself in the row, or None."""
    known = {word: list(spans[word]) for word in spans}
    for stretch in row:
        word, first, many, way = stretch
        its = (least_number(stretch), many)
        near = [_steps_to(first, way, both) for both in _shared(its, known.get(word, []))]
        if near:
            return (word, first + way * min(near))
        known.setdefault(word, []).append(its)
    return None


def _shared(span, others):
    """What a stretch of numbers shares with each of others that it shares any with."""
    both = [(max(span[0], first), min(span[0] + span[1], first + many)) for first, many in others]
    return [(first, end - first) for first, end in both if first < end]


def _steps_to(number, way, span):
    """How many steps by a way it is from a number to the first one of a stretch of numbers that lies on the way."""
    first, many = span
    return first - number if way == 1 else number - first - many + 1
