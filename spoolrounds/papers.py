"""Lots, and looks through papers: rows of facts, each led by its rule from elder ones."""

from spoolrounds.facts import again_of, beside_of, named_by, part_of, then_of
from spoolrounds.kinds import are_whole, is_from_to
from spoolrounds.stretches import fused, is_within, led, lies_in, one_at, seen_in

# How many numbers a rule tells.
RULES = {"piece": 0, "part": 1, "then": 2, "again": 2, "beside": 2}


def is_lot(lay, thing):
    """Whether it is a list of rising stretches (from, many) of the laying's row, no spot in two."""
    if not isinstance(thing, (list, tuple)) or not all([are_whole(part, 2) for part in thing]):
        return False
    end = 0
    for first, many in thing:
        if first < end or not is_within(first, many, lay.spots()):
            return False
        end = first + many
    return True


def shows(lay, lot, rows):
    """Whether the rows are a paper of the laying and the lot."""
    if not isinstance(rows, (list, tuple)):
        return False
    pieces = lay.pieces()
    spans = fused(lot)
    facts = []
    for row in rows:
        if not _is_row(row, len(facts)):
            return False
        fact, rule = row
        made = _piece_of(fact, pieces, spans) if rule[0] == "piece" else _made_of(fact, rule, facts)
        if fact != made:
            return False
        facts.append(fact)
    return True


def _is_row(thing, elder):
    """Whether it is a fact and a rule by themselves, the rule naming elder rows, which are so many."""
    if not isinstance(thing, tuple) or len(thing) != 2:
        return False
    fact, rule = thing
    return are_whole(fact, 6) and is_rule(rule) and all([is_from_to(k, 0, elder - 1) for k in named_by(rule)])


def is_rule(thing):
    """Whether it is a rule by itself, whatever its numbers."""
    if not isinstance(thing, tuple) or not thing or not isinstance(thing[0], str):
        return False
    return thing[0] in RULES and are_whole(thing[1:], RULES[thing[0]])


def _piece_of(fact, pieces, spans):
    """The fact of the same stretch within one piece of the laying, or None."""
    first, many = fact[:2]
    piece = one_at(pieces, first)
    if piece is None or many < 1 or not lies_in(fact, piece):
        return None
    return (first, many, led(piece, first, many), piece[3], 1, seen_in(spans, first, many))


def _made_of(fact, rule, facts):
    """The fact that the rule makes of the facts that it names, of the same stretch where it leaves that open."""
    named = [facts[k] for k in named_by(rule)]
    if rule[0] == "part":
        return part_of(named[0], fact[0], fact[1])
    if rule[0] == "then":
        return then_of(named[0], named[1])
    if rule[0] == "again":
        return again_of(named[0], rule[2])
    return beside_of(named[0], named[1])
