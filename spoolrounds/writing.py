"""Papers being written: a row is told what it rests on, and its fact comes of that."""

from spoolrounds.facts import again_of, beside_of, named_by, part_of, then_of


class Writing:
    """Rows (fact, rule), called by their numbers. Who adds one sees to it that its rule can be kept to."""

    def __init__(self):
        self.rows = []

    def fact(self, row):
        """The fact of a row."""
        return self.rows[row][0]

    def add_piece(self, fact):
        """A row of a fact within a piece of the laying."""
        return self._add(fact, ("piece",))

    def add_part(self, row, first, many):
        """A row of a stretch within a row's; that row itself where it is all of it."""
        fact = self.fact(row)
        if (first, many) == fact[:2]:
            return row
        return self._add(part_of(fact, first, many), ("part", row))

    def add_then(self, one, other):
        """A row of what is led by a row, then by another one."""
        return self._add(then_of(self.fact(one), self.fact(other)), ("then", one, other))

    def add_again(self, row, times):
        """A row of what is led by a row so many times; that row itself for once."""
        if times == 1:
            return row
        return self._add(again_of(self.fact(row), times), ("again", row, times))

    def add_beside(self, one, other):
        """A row of what two rows lead that lie beside one another."""
        return self._add(beside_of(self.fact(one), self.fact(other)), ("beside", one, other))

    def along(self, row, measure, left):
        """The rows, each with how often, by which a row leads as far as it can until nothing is left.

        Left is told in rounds or in moments that were seen, as measure says
        where a fact tells them, and is less than the row's. Rows that lead on
        without taking anything are gone along, too. So behind rounds the last
        of them is done, and behind moments that were seen comes a next one.
        """
        out = []
        _, rule = self.rows[row]
        while rule[0] != "piece":
            row = rule[1]
            many = self.fact(row)[measure]
            if rule[0] == "again" and many <= left:
                out.append((row, left // many))
                left = left - left // many * many
            elif rule[0] == "then" and many <= left:
                out.append((row, 1))
                left = left - many
                row = rule[2]
            _, rule = self.rows[row]
        return out

    def needed(self, wanted):
        """The wanted rows and all that they rest on, as a paper of their own."""
        kept = {row: True for row in wanted}
        for row in reversed(range(len(self.rows))):
            if row in kept:
                for elder in named_by(self.rows[row][1]):
                    kept[elder] = True
        numbers = {row: number for number, row in enumerate(sorted(kept))}
        return [(self.fact(row), _renumbered(self.rows[row][1], numbers)) for row in sorted(kept)]

    def _add(self, fact, rule):
        self.rows.append((fact, rule))
        return len(self.rows) - 1


def _renumbered(rule, numbers):
    """The rule with the rows that it names called by their new numbers."""
    named = [numbers[row] for row in named_by(rule)]
    return (rule[0], *named, *rule[1 + len(named):])
