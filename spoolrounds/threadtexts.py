"""Rows of stretches as texts."""

from spoolrounds.errors import NoText
from spoolrounds.threads import is_row, joined, last_number

FIGURES = "0123456789"
MOST_FIGURES = 19


def show_row(row):
    """The text of a row, written in its one form."""
    one_form = joined(row)
    if not one_form:
        return "none"
    return ", ".join([_show_stretch(stretch) for stretch in one_form])


def _show_stretch(stretch):
    word, first, many, way = stretch
    if many > 1:
        return f"{word} {first}..{last_number(stretch)}"
    if way == 1:
        return f"{word} {first}+"
    return f"{word} {first}-"


def read_row(text):
    """The row, in its one form, whose text it is."""
    if not isinstance(text, str):
        raise NoText(text)
    if text == "none":
        return []
    row = [_read_stretch(part) for part in text.split(", ")]
    # Only the row's own text will do: so noughts ahead, a span of one yard and
    # stretches that should be one are all refused.
    if not is_row(row) or show_row(row) != text:
        raise NoText(text)
    return row


def _read_stretch(text):
    """What a text says of a stretch, which may be none; None where it says nothing."""
    word, _, span = text.partition(" ")
    if span.endswith("+"):
        return (word, _read_number(span[:-1]), 1, 1)
    if span.endswith("-"):
        return (word, _read_number(span[:-1]), 1, -1)
    ends = [_read_number(end) for end in span.split("..")]
    if len(ends) != 2 or None in ends:
        return None
    first, last = ends
    if first < last:
        return (word, first, last - first + 1, 1)
    return (word, first, first - last + 1, -1)


def _read_number(text):
    """The number that a text of figures writes; None of any other text."""
    # Python reads no number of very many figures, and no yard has so many.
    if not 1 <= len(text) <= MOST_FIGURES or not all([sign in FIGURES for sign in text]):
        return None
    return int(text)
