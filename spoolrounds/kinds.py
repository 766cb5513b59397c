"""What the other files ask of things of any kind."""


def is_whole(thing):
    """Whether it is a whole number: an int, no truth."""
    return isinstance(thing, int) and not isinstance(thing, bool)


def is_from_to(thing, low, high):
    """Whether it is a whole number from low to high, both with it."""
    return is_whole(thing) and low <= thing <= high


def are_whole(thing, many):
    """Whether it is a tuple of so many whole numbers."""
    return isinstance(thing, tuple) and len(thing) == many and all([is_whole(part) for part in thing])


def copied(thing):
    """A copy of a thing of any kind that shares no list and no dict with it."""
    found = [thing]
    spans = []
    at = 0
    # A list of what is left instead of calls within calls: things may be
    # nested deeper than calls can be.
    while at < len(found):
        parts = _parts(found[at])
        spans.append((len(found), len(parts)))
        found.extend(parts)
        at += 1
    made = list(found)
    # Parts stand behind what they are parts of, so the last ones are made first.
    for at in reversed(range(len(found))):
        first, many = spans[at]
        made[at] = _made_of(found[at], made[first:first + many])
    return made[0]


def _parts(thing):
    if isinstance(thing, (list, tuple)):
        return list(thing)
    if isinstance(thing, dict):
        return list(thing.values())
    return []


def _made_of(thing, parts):
    if isinstance(thing, list):
        return parts
    if isinstance(thing, tuple):
        return tuple(parts)
    if isinstance(thing, dict):
        return {key: part for key, part in zip(thing, parts)}
    return thing
