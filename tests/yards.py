"""Yards moved one by one, to hold standings and works against."""

from spoolrounds.threads import joined


def about(yard):
    return (*yard[:-1], -yard[-1])


def singly(row):
    """A row's yards (word, number, way), one by one."""
    return [(word, first + k * way, way) for word, first, many, way in row for k in range(many)]


def told_of(spool):
    """The row of yards one by one, in its one form."""
    return joined([(word, number, 1, way) for word, number, way in spool])


def stepped(spools, steps):
    """The spools behind written out steps, or the number of the first step that can't be done."""
    made = [list(spool) for spool in spools]
    for at, step in enumerate(steps):
        if max(step[1:3] if step[0] != "turn" else step[1:]) >= len(made):
            return at
        if step[0] == "wind":
            _, a, b, many = step
            if many > len(made[a]):
                return at
            for _ in range(many):
                made[b].insert(0, about(made[a].pop(0)))
        elif step[0] == "turn":
            made[step[1]] = [about(yard) for yard in reversed(made[step[1]])]
        else:
            _, a, b = step
            made[a], made[b] = made[b], made[a]
    return made
