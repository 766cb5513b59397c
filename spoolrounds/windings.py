"""Written out steps done with the rows that lie on spools."""

from spoolrounds.threads import about, joined, parted, turned


def wound_on(rows, step):
    """The rows behind a step that can be done, each in its one form."""
    made = list(rows)
    if step[0] == "wind":
        _, a, b, many = step
        top, rest = parted(rows[a], many)
        made[a] = rest
        made[b] = joined([*turned(top), *rows[b]])
    elif step[0] == "turn":
        made[step[1]] = turned(rows[step[1]])
    else:
        _, a, b = step
        made[a], made[b] = rows[b], rows[a]
    return made


def wound_whole(rows, a, b, many):
    """The rows, tuples, behind a winding of so many stretches, none of which is joined to another one."""
    made = list(rows)
    made[a] = rows[a][many:]
    made[b] = (*[about(stretch) for stretch in reversed(rows[a][:many])], *rows[b])
    return tuple(made)
