"""The refusals of the program, each straight under one of Python's own errors.

A refusal keeps a copy of what was handed in, so that it still tells what was
asked when the asker has changed it since. What may be of any kind or of any
size is not written into the message.
"""

from spoolrounds.kinds import copied


class NoText(ValueError):
    """asked, whole, is no text of what was to be read."""

    def __init__(self, asked):
        ValueError.__init__(self, "no such text")
        self.asked = copied(asked)


class NoStretch(ValueError):
    """The stretch numbered at isn't as told; at is None where there is no list."""

    def __init__(self, at):
        ValueError.__init__(self, "no row of stretches")
        self.at = at


class NoRound(ValueError):
    """The step numbered at isn't as told; at is None where there is no tuple of few steps."""

    def __init__(self, at):
        ValueError.__init__(self, "no round")
        self.at = at


class NoLay(ValueError):
    """A laying can't be made because of the part that is named."""

    def __init__(self, part):
        ValueError.__init__(self, "no laying")
        self.part = part


class NoStanding(ValueError):
    """Standings aren't as told in the part that is named."""

    def __init__(self, part):
        ValueError.__init__(self, "no such standing")
        self.part = part


class NoRow(ValueError):
    """asked, whole, is no row that a desk answers."""

    def __init__(self, asked):
        ValueError.__init__(self, "no row of a desk")
        self.asked = copied(asked)


class BadName(ValueError):
    """asked is no word, so it can't be a name."""

    def __init__(self, asked):
        ValueError.__init__(self, "no word")
        self.asked = copied(asked)


class NoName(KeyError):
    """No round of this name is told."""

    def __init__(self, name):
        KeyError.__init__(self, "no such name")
        self.name = copied(name)


class NoYard(KeyError):
    """The yard asked for is none that was put."""

    def __init__(self, asked):
        KeyError.__init__(self, "no such yard")
        self.asked = copied(asked)


class Known(LookupError):
    """What name stands for is there already."""

    def __init__(self, name):
        LookupError.__init__(self, "known already")
        self.name = name


class NoDeed(LookupError):
    """There is no such deed."""


class NoSpot(IndexError):
    """The spot asked for isn't there."""

    def __init__(self, asked):
        IndexError.__init__(self, "no such spot")
        self.asked = copied(asked)


class NoSpool(IndexError):
    """The spool asked for isn't there."""

    def __init__(self, asked):
        IndexError.__init__(self, "no such spool")
        self.asked = copied(asked)


class TooFew(ArithmeticError):
    """Fewer yards or spools are there than are needed, as at tells."""

    def __init__(self, at):
        ArithmeticError.__init__(self, "too few")
        self.at = at


class Uneven(ArithmeticError):
    """What isn't even can't be done so many times."""

    def __init__(self, times):
        ArithmeticError.__init__(self, "not even")
        self.times = times


class TooMany(RuntimeError):
    """There would be so many, more than there may be."""

    def __init__(self, many):
        RuntimeError.__init__(self, "too many")
        self.many = many
