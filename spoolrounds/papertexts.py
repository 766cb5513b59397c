"""Papers as texts."""

from spoolrounds.errors import NoText
from spoolrounds.facts import named_by
from spoolrounds.kinds import are_whole
from spoolrounds.numbertexts import read_number, read_way, show_way
from spoolrounds.papers import is_rule

MOST_FIGURES = 100


def show_paper(rows):
    """The text of a paper."""
    if not rows:
        return "none"
    return "\n".join([_show_paper_row(fact, rule) for fact, rule in rows])


def read_paper(text):
    """The rows whose text it is, each a fact and a rule by themselves."""
    if not isinstance(text, str):
        raise NoText(text)
    if text == "none":
        return []
    rows = [_paper_row_of(part) for part in text.split("\n")]
    if None in rows:
        raise NoText(text)
    return rows


def _show_paper_row(fact, rule):
    first, many, to, way, rounds, seen = fact
    numbers = " ".join([str(part) for part in rule])
    return f"{first} {many} {to} {show_way(way)} {rounds} {seen} {numbers}"


def _paper_row_of(text):
    """The row that a text writes; None where it writes none."""
    words = text.split(" ")
    if len(words) < 7:
        return None
    first, many, to, way, rounds, seen, kind, *told = words
    first, many, to, rounds, seen = [_number(word) for word in (first, many, to, rounds, seen)]
    fact = (first, many, to, read_way(way), rounds, seen)
    rule = (kind, *[_number(word) for word in told])
    return (fact, rule) if _is_fact(fact) and is_rule(rule) and _are_in_bounds(rule) else None


def _number(text):
    return read_number(text, MOST_FIGURES)


def _is_fact(thing):
    """Whether it is a fact by itself, whatever the row of spots."""
    if not are_whole(thing, 6):
        return False
    first, many, to, _, rounds, seen = thing
    return min(first, to, seen) >= 0 and min(many, rounds) >= 1


def _are_in_bounds(rule):
    """Whether the rule's numbers are such as there can be, whatever rows are there."""
    return all([number >= 0 for number in named_by(rule)]) and (rule[0] != "again" or rule[2] >= 2)
