"""Facts (from, many, to, way, rounds, seen), and what the rules make of them.

A rule that can't be kept to makes None.
"""

from spoolrounds.stretches import goes_on, led, lies_in

# Where a fact tells them.
ROUNDS = 4
SEEN = 5


def part_of(fact, first, many):
    """The fact of a stretch within that of a fact."""
    if many < 1 or not lies_in((first, many), fact):
        return None
    _, _, _, way, rounds, seen = fact
    return (first, many, led(fact, first, many), way, rounds, seen)


def then_of(one, other):
    """The fact of what is led by one fact, then by another one."""
    first, many, to, way, rounds, seen = one
    if not lies_in((to, many), other):
        return None
    return (first, many, led(other, to, many), way * other[3], rounds + other[4], seen + other[5])


def again_of(fact, times):
    """The fact of what is led by a fact so many times, which all come to spots that it leads on."""
    first, many, to, way, rounds, seen = fact
    shift = to - first
    left = many - (times - 1) * abs(shift)
    if way != 1 or times < 2 or left < 1:
        return None
    start = first if shift >= 0 else first + many - left
    return (start, left, start + times * shift, 1, times * rounds, times * seen)


def beside_of(one, other):
    """The fact of two stretches beside one another that are led as one piece would be."""
    if not goes_on(one, other) or one[4:] != other[4:]:
        return None
    first, many, to, way, rounds, seen = one
    return (first, many + other[1], min(to, other[2]), way, rounds, seen)


def named_by(rule):
    """The numbers of the rows that a rule names."""
    return rule[1:2] if rule[0] == "again" else rule[1:]
