"""The refusals: each stands straight under NeedleError and tells its fields."""

from wayneedle.things import kept


class NeedleError(ValueError):
    """Something was refused."""


class NoLot(NeedleError):
    """The thing is no lot."""

    def __init__(self, lot):
        self.lot = kept(lot)


class BadLog(NeedleError):
    """The entry with the number at can't stand where it stands in the log of that name."""

    def __init__(self, name, at):
        self.name = kept(name)
        self.at = kept(at)


class NoDealing(NeedleError):
    """The lots are no dealing: of another number than at, or wrong at that number."""

    def __init__(self, at):
        self.at = kept(at)


class BadBox(NeedleError):
    """The box is none: of at things instead of eight, or wrong at that place."""

    def __init__(self, at):
        self.at = kept(at)


class NoName(NeedleError):
    """The thing is no name."""

    def __init__(self, name):
        self.name = kept(name)


class Twice(NeedleError):
    """The name is taken."""

    def __init__(self, name):
        self.name = kept(name)


class NoWalker(NeedleError):
    """There is no walker of this name."""

    def __init__(self, name):
        self.name = kept(name)


class NoSign(NeedleError):
    """The text is no lone sign that can be meant here."""

    def __init__(self, sign):
        self.sign = kept(sign)


class NoLeg(NeedleError):
    """The log of this name has no such leg."""

    def __init__(self, name, leg):
        self.name = kept(name)
        self.leg = kept(leg)


class TooMany(NeedleError):
    """More dealings fit than can be asked of."""

    def __init__(self, many):
        self.many = kept(many)


class NoWatch(NeedleError):
    """No watch of this number was set."""

    def __init__(self, number):
        self.number = kept(number)


class NoText(NeedleError):
    """The text can't be read; its part with the number at is the first wrong one."""

    def __init__(self, at):
        self.at = kept(at)


class NoLine(NeedleError):
    """The line is none that a desk knows."""

    def __init__(self, line):
        self.line = kept(line)


class NoBook(NeedleError):
    """There is no book of this name."""

    def __init__(self, name):
        self.name = kept(name)


class NoFit(NeedleError):
    """No dealing fits, or the one that was handed in doesn't."""


class NoLink(NeedleError):
    """The two signs are not linked."""


class NothingDone(NeedleError):
    """There is no deed to take back."""


class NothingUndone(NeedleError):
    """There is no deed to do again."""
