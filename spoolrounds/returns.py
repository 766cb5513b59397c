"""First returns of a laying to some of its spots, however far off, and rows that show them."""

from spoolrounds.stretches import back_of, cut, ends_of, fused, gaps, led, seen_in
from spoolrounds.writing import Writing


class Returns:
    """The first returns of a laying to a goal, a lot, in rows of a paper of the laying and another lot.

    At first all spots are left, and pieces lead from what is left to what is
    left. Then all spots that aren't in the goal are taken away, from the end
    of each gap on: what came to them is led on by what left from them. So the
    pieces always are the first returns to what is left.

    At the end of a gap one piece comes to its last spots, one leaves from
    them. The shorter one becomes one with a part of the longer one, the mover,
    which goes on with the rest: so there never are more pieces than at first.
    What a mover would do with the same pieces again and again is done at once.
    So there are few steps however long the pieces are: where a mover, but for
    a rest, gives way to a longer one, this one loses a third of its length or
    more, or leaves a rest of its own that is more than twice as long.
    """

    def __init__(self, lay, lot, goal):
        self.writing = Writing()
        # Pieces that came to lead back onto themselves, away from the goal.
        self.bases = []
        # How all others were taken away: (from, span, row, brought). The row
        # leads from spots that are left to the first span of them (brought) or
        # from that to such spots; done twice it does so with the next span.
        self.taken = []
        # Pieces (from, many, to, way, row), by the spots just behind those that
        # they lead from and just behind those that they lead to; row is one
        # whose fact leads so, perhaps more spots than these.
        self._leaving = {}
        self._coming = {}
        away = gaps(goal, lay.spots())
        self._begin(lay, fused(lot), away)
        for first, many in away:
            self._take_away(first, first + many)

    def rows_in(self, first, many):
        """Rows of the first returns of what is left of a stretch, rising."""
        out = []
        for start, whole, _, _, row in sorted(list(self._leaving.values())):
            low = max(first, start)
            high = min(first + many, start + whole)
            if low < high:
                out.append(self.writing.add_part(row, low, high - low))
        return out

    def row_of(self, first, many):
        """A row of the first return of a stretch of the goal, a spot or what goes as one stretch all the way."""
        return self.rows_in(first, many)[0]

    def fact_of(self, spot):
        """The fact of the first return of a spot of the goal alone."""
        return self.writing.fact(self.row_of(spot, 1))

    def _begin(self, lay, spans, away):
        """Put the laying's pieces, parted so that each is seen all or none, and leaves and comes from gap to gap."""
        to_ends = ends_of(away)
        from_ends = ends_of([*spans, *away])
        for piece in lay.pieces():
            for part in cut(piece, from_ends):
                row = self.writing.add_piece((*part, 1, seen_in(spans, part[0], part[1])))
                for back in cut(back_of(part), to_ends):
                    self._put((*back_of(back), row))

    def _put(self, piece):
        first, many, to = piece[:3]
        self._leaving[first + many] = piece
        self._coming[to + many] = piece

    def _drop(self, pieces):
        for first, many, to, _, _ in pieces:
            del self._leaving[first + many]
            del self._coming[to + many]

    def _take_away(self, first, end):
        """Take away the spots from the first one to the one ahead of the end."""
        while end > first:
            leaving = self._leaving[end]
            coming = self._coming[end]
            if leaving == coming:
                self._drop([leaving])
                self.bases.append(leaving)
                end = end - leaving[1]
            elif leaving[1] <= coming[1]:
                end = end - self._bring_to_what_leaves(coming, leaving[1], end)
            else:
                end = end - self._lead_on_what_comes(leaving, coming[1], end)

    def _bring_to_what_leaves(self, mover, many, end):
        """Let what leaves from the last spots leave from where the mover brings them from instead."""
        times, span = _how_often(mover, end - mover[0] - mover[1], many)
        moved = _last_of(self._leaving, end, span)
        self._drop([mover, *moved])
        row = self.writing.add_again(mover[4], times)
        back = back_of(self.writing.fact(row))
        for first, more, _, _, on in moved:
            brought = self.writing.add_part(row, led(back, first, more), more)
            self._put_row(self.writing.add_then(brought, on))
        first, whole, to, way, row = mover
        self._put_rest((first if way == 1 else first + times * span, whole - times * span, to, way, row))
        self.taken.append((end - times * span, span, row, True))
        return times * span

    def _lead_on_what_comes(self, mover, many, end):
        """Let what comes to the last spots come to where the mover leads them instead."""
        times, span = _how_often(mover, end - mover[2] - mover[1], many)
        moved = _last_of(self._coming, end, span)
        self._drop([mover, *moved])
        row = self.writing.add_again(mover[4], times)
        for first, more, _, _, ahead in moved:
            self._put_row(self.writing.add_then(self.writing.add_part(ahead, first, more), row))
        first, whole, to, way, row = mover
        self._put_rest((first, whole - times * span, to if way == 1 else to + times * span, way, row))
        self.taken.append((end - times * span, span, row, False))
        return times * span

    def _put_row(self, row):
        self._put((*self.writing.fact(row)[:4], row))

    def _put_rest(self, piece):
        if piece[1] > 0:
            self._put(piece)


def _last_of(pieces, end, span):
    """Those of the pieces, by their ends, that fill so many spots ahead of an end."""
    out = []
    low = end - span
    while end > low:
        out.append(pieces[end])
        end = end - pieces[end][1]
    return out


def _how_often(mover, shift, many):
    """How often a mover takes the last spots by which it shifts, and how many these are.

    Where it doesn't shift, or by more than its length, it takes so many, once.
    """
    if mover[3] == 1 and 0 < shift <= mover[1]:
        return (mover[1] // shift, shift)
    return (1, many)
