"""Which yards rows have: their numbers as stretches (from, many), word by word."""

from spoolrounds.threads import last_number


def least_number(stretch):
    """The least number of a stretch's yards."""
    return min(stretch[1], last_number(stretch))


def spans_of(row):
    """The numbers of a row's yards by their words, each word's rising."""
    found = {}
    for stretch in row:
        found.setdefault(stretch[0], []).append((least_number(stretch), stretch[2]))
    return {word: sorted(found[word]) for word in found}


def are_once(spans):
    """Whether no number is in two of the rising stretches."""
    return all([one[0] + one[1] <= next_one[0] for one, next_one in zip(spans, spans[1:])])
