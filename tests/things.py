"""Things of any kind, which are handed in wherever the document says "of anything"."""

import copy

GREAT = 10 ** 18
HUGE = 10 ** 999

# The words among the things below.
WORDS = ("a", "none", "abcdefgh", "wind")

_PLAIN = [
    "", "a", "none", "abcdefgh", "abcdefghi", "A", "a1", "a b", " ", "~", "\n", "a\n", "0", "wind",
    0, 1, -1, 2, 24, GREAT, GREAT + 1, -GREAT, HUGE, -HUGE,
    True, False, None,
    [], [0], ["a"], [[]], [None, [True]],
    (), (0,), ("a",), ((),), (None,), ([],),
    {}, {"a": 1}, {0: []}, {(1, "a"): None},
    ("a", 0, 1, 1), ["a", 0, 1, 1], [("a", 0, 1, 1)], (("a", 0, 1, 1),),
    ("turn", 0), ["turn", 0], (("turn", 0),), [("turn", 0)],
]


def anything():
    """A new list of new things of any kind."""
    return copy.deepcopy(_PLAIN)


def deep(many):
    """A list within a list within a list, so many of them."""
    thing = []
    for _ in range(many):
        thing = [thing]
    return thing


def refusal(asked, *places, **names):
    """What a call is refused with, or None where it isn't."""
    try:
        asked(*places, **names)
    except Exception as error:
        return error
    return None


def same(one, other):
    """Whether both are equal and of the same kinds all the way down: 1 is no True here."""
    if type(one) is not type(other):
        return False
    if isinstance(one, (list, tuple)):
        return len(one) == len(other) and all(same(a, b) for a, b in zip(one, other))
    if isinstance(one, dict):
        return same(list(one), list(other)) and same(list(one.values()), list(other.values()))
    return one == other
