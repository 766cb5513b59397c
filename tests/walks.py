"""Layings to be asked of, small ones and great ones, and walks spot by spot to hold the answers against."""

import itertools
import random

from spoolrounds.lays import Lay
from things import GREAT


def some(seed):
    """Numbers that look like chance, and are the same for each run."""
    return random.Random(seed)


def lay_of_parts(lengths, order, ways):
    """The laying whose pieces, of such lengths, come to lie in such an order."""
    starts = [0, *itertools.accumulate(lengths)]
    to = {}
    end = 0
    for part in order:
        to[part] = end
        end += lengths[part]
    return Lay(end, [(starts[k], lengths[k], to[k], ways[k]) for k in range(len(lengths))])


def small_lay(rng, most_spots=12, most_pieces=6):
    """A laying of few spots, one at least."""
    total = rng.randint(1, most_spots)
    many = rng.randint(1, min(total, most_pieces))
    marks = [0, *sorted(rng.sample(range(1, total), many - 1)), total]
    order = list(range(many))
    rng.shuffle(order)
    ways = [rng.choice((1, 1, -1)) for _ in order]
    return lay_of_parts([b - a for a, b in zip(marks, marks[1:])], order, ways)


def small_lays(seed, many, **sizes):
    rng = some(seed)
    return [small_lay(rng, **sizes) for _ in range(many)]


def small_lot(rng, lay):
    """A lot of a laying, of none to four stretches, some of which may touch."""
    lot = []
    at = 0
    for _ in range(rng.randint(0, 4)):
        first = at + rng.randint(0, 3)
        many = rng.randint(1, 4)
        if first + many <= lay.spots():
            lot.append((first, many))
            at = first + many
    return lot


def great_lays(most=2 * GREAT):
    """Names and layings of as many spots as may be or nearly as many."""
    rng = some("great")
    golden = [most // 3]
    while len(golden) < 16:
        golden.append(golden[-1] * 1000 // 1618)
    fibonacci = [1, 2]
    while fibonacci[-1] + fibonacci[-2] <= most:
        fibonacci.append(fibonacci[-1] + fibonacci[-2])
    nearly = [most // 13 - k * k for k in range(13)]
    any_ones = [rng.randint(1, most // 12) for _ in range(12)]
    few_spots = [k % 5 + 1 for k in range(40)]
    shuffled = rng.sample(range(12), 12)
    return [
        ("two", lay_of_parts([most - 618 * most // 1618, 618 * most // 1618], [1, 0], [1, 1])),
        ("two of fibonacci", lay_of_parts(fibonacci[-3:-1], [1, 0], [1, 1])),
        ("three", lay_of_parts([most // 2 - 7, most // 3, most - most // 2 - most // 3 + 7], [2, 1, 0], [1, 1, 1])),
        ("three, one turned over", lay_of_parts([most // 7, most // 3 + 5, most // 2], [1, 2, 0], [1, -1, 1])),
        ("golden", lay_of_parts(golden, list(reversed(range(16))), [1] * 16)),
        ("golden, rising", lay_of_parts(golden[::-1], [3, 0, 7, 1, 15, 12, *range(8, 12), 2, 4, 5, 6, 13, 14], [1] * 16)),
        ("golden, turned over", lay_of_parts(golden, [5, 1, 9, *range(10, 16), 0, 8, 2, 3, 4, 6, 7], [1, -1] * 8)),
        ("nearly alike", lay_of_parts(nearly, list(reversed(range(13))), [1] * 13)),
        ("nearly alike, turned over", lay_of_parts(nearly, [7, *range(7), *range(8, 13)], [1] * 6 + [-1] + [1] * 6)),
        ("any", lay_of_parts(any_ones, shuffled, [1] * 12)),
        ("any, turned over", lay_of_parts(any_ones, shuffled, [1, 1, -1] * 4)),
        ("forty of few spots", lay_of_parts(few_spots, [*range(1, 40, 2), *range(0, 40, 2)], [1, 1, 1, -1] * 10)),
        ("by one", Lay(most, [(0, most - 1, 1, 1), (most - 1, 1, 0, 1)])),
        ("by one, the last turned over", Lay(most, [(0, most - 1, 1, 1), (most - 1, 1, 0, -1)])),
        ("turned about", Lay(most, [(0, most, 0, -1)])),
        ("each to itself", Lay(most, [(0, most, 0, 1)])),
    ]


def great_lots(lay):
    """Lots of a great laying: of none, of one spot, of great stretches, some of which touch, of all spots."""
    part = lay.spots() // 16
    return [
        [], [(5 * part, 1)], [(2 * part + 1, 3 * part)],
        [(0, 1), (part, 2 * part), (3 * part, part // 2), (4 * part, part), (lay.spots() - 1, 1)],
        [(0, lay.spots())],
    ]


def spots_of(lot):
    return {spot for first, many in lot for spot in range(first, first + many)}


def walked(lay, spot, rounds):
    """Where a spot is led, round by round: (spot, way)."""
    way = 1
    for _ in range(rounds):
        spot, more = lay.goes(spot)
        way *= more
    return (spot, way)


def table_of(lay):
    """Where each spot is led, and which way."""
    return [lay.goes(spot) for spot in range(lay.spots())]


def seen(lay, lot, spot, rounds):
    """At how many of so many first moments a spot is in the lot."""
    there = spots_of(lot)
    many = 0
    for _ in range(rounds):
        many += spot in there
        spot = lay.goes(spot)[0]
    return many


def is_so(lay, lot, fact):
    """Whether a fact of few rounds is so, walked spot by spot."""
    first, many, to, way, rounds, often = fact
    if many < 1 or rounds < 1 or first < 0 or first + many > lay.spots():
        return False
    for k in range(many):
        end = to + k if way == 1 else to + many - 1 - k
        if walked(lay, first + k, rounds) != (end, way) or seen(lay, lot, first + k, rounds) != often:
            return False
    return True


def otherwise(rows):
    """Rows with one thing otherwise at each place: papers that are wrong, and some that happen to be right."""
    for at, (fact, rule) in enumerate(rows):
        for place in range(6):
            for number in (fact[place] + 1, fact[place] - 1, -fact[place], True, None, [fact[place]]):
                yield changed(rows, at, (fact[:place] + (number,) + fact[place + 1:], rule))
        for place in range(1, len(rule)):
            for number in (rule[place] + 1, rule[place] - 1, True, None, len(rows), -1):
                yield changed(rows, at, (fact, rule[:place] + (number,) + rule[place + 1:]))
        for other in (("piece",), ("part", 0), ("then", 0, 0), ("again", 0, 2), ("beside", 0, 0), (), "piece", None):
            yield changed(rows, at, (fact, other))
        for other in ([fact, rule], (list(fact), rule), (fact, list(rule)), (fact,), (fact, rule, rule), (), None, at):
            yield changed(rows, at, other)
        yield changed(rows, at, (fact + (0,), rule))
        yield changed(rows, at, (fact[:5], rule))
        yield changed(rows, at, (fact, (*rule, 0)))


def changed(rows, at, row):
    return [*rows[:at], row, *rows[at + 1:]]
