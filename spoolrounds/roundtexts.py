"""Rounds as texts."""

from spoolrounds.errors import NoText
from spoolrounds.numbertexts import read_number
from spoolrounds.rounds import is_round

MOST_FIGURES = 19


def show_round(steps):
    """The text of a round."""
    if not steps:
        return "none"
    return "; ".join([" ".join([str(part) for part in step]) for step in steps])


def read_round(text):
    """The round whose text it is."""
    steps = round_of(text)
    if steps is None:
        raise NoText(text)
    return steps


def round_of(text):
    """The round whose text it is, of anything; None where it is no round's."""
    if not isinstance(text, str):
        return None
    if text == "none":
        return ()
    steps = tuple([_step_of(part) for part in text.split("; ")])
    return steps if is_round(steps) else None


def _step_of(text):
    """What a text says of a step, which may be none."""
    kind, *told = text.split(" ")
    names = 1 if kind == "do" else 0
    return (kind, *told[:names], *[read_number(word, MOST_FIGURES) for word in told[names:]])
