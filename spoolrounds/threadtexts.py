"""Rows of stretches as texts."""

from spoolrounds.errors import NoText
from spoolrounds.numbertexts import read_number, read_way, show_way
from spoolrounds.threads import is_row, joined, last_number

MOST_FIGURES = 19


def show_row(row):
    """The text of a row, written in its one form."""
    one_form = joined(row)
    if not one_form:
        return "none"
    return ", ".join([_show_stretch(stretch) for stretch in one_form])


def read_row(text):
    """The row, in its one form, whose text it is."""
    row = row_of(text)
    if row is None:
        raise NoText(text)
    return row


def row_of(text):
    """The row whose text it is, of anything; None where it is no row's."""
    if not isinstance(text, str):
        return None
    if text == "none":
        return []
    row = [_stretch_of(part) for part in text.split(", ")]
    # Only the row's own text will do: so a span of one yard and stretches
    # that should be one are refused.
    return row if is_row(row) and show_row(row) == text else None


def _show_stretch(stretch):
    word, first, many, way = stretch
    if many > 1:
        return f"{word} {first}..{last_number(stretch)}"
    return f"{word} {first}{show_way(way)}"


def _stretch_of(text):
    """What a text says of a stretch, which may be none; None where it says nothing."""
    word, _, span = text.partition(" ")
    way = read_way(span[-1:])
    if way is not None:
        return (word, read_number(span[:-1], MOST_FIGURES), 1, way)
    ends = [read_number(end, MOST_FIGURES) for end in span.split("..")]
    if len(ends) != 2 or None in ends:
        return None
    first, last = ends
    if first < last:
        return (word, first, last - first + 1, 1)
    return (word, first, first - last + 1, -1)
