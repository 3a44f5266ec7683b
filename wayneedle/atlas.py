"""Atlases: a box of compasses and the logs of walkers; dealings, what they tell, and groups of walkers."""

from wayneedle.errors import BadBox, BadLog, NoDealing, NoLeg, NoName, NoWalker, Twice
from wayneedle.logs import held_log, is_lone, is_name, legs_in
from wayneedle.lots import is_lot
from wayneedle.things import is_row, is_whole
from wayneedle.tracks import facts

HOW_MANY_LOTS = 8


def held_box(box):
    """The box as a tuple; BadBox where it is none."""
    if len(box) != HOW_MANY_LOTS:
        raise BadBox(len(box))
    for at, thing in enumerate(box):
        if not is_whole(thing) or thing < 0:
            raise BadBox(at)
    return tuple(box)


def held_log_of(name, log):
    """The log as held_log tells it; the refusal names the walker."""
    try:
        return held_log(log)
    except BadLog as why:
        raise BadLog(name, why.at) from None


class Atlas:
    """A box, and the logs of the walkers whose compasses came out of it; never altered."""

    def __init__(self, box, logs=()):
        self.box = held_box(box)
        held = {}
        for name, log in logs:
            if not is_name(name):
                raise NoName(name)
            if name in held:
                raise Twice(name)
            held[name] = held_log_of(name, log)
        self.names = tuple(sorted(held))
        self.logs = tuple([held[name] for name in self.names])

    def log(self, name):
        """The log of the walker."""
        if name not in self.names:
            raise NoWalker(name)
        return self.logs[self.names.index(name)]

    def legs(self):
        """All pairs of a name and a leg, by names, then legs."""
        return tuple([(name, leg) for name, log in zip(self.names, self.logs) for leg in range(legs_in(log))])

    def with_log(self, name, log):
        """An atlas in which the walker has this log, whether or not it had one."""
        others = [pair for pair in zip(self.names, self.logs) if pair[0] != name]
        return Atlas(self.box, [*others, (name, log)])

    def without(self, name):
        """An atlas without the walker."""
        if name not in self.names:
            raise NoWalker(name)
        return Atlas(self.box, [pair for pair in zip(self.names, self.logs) if pair[0] != name])

    def __eq__(self, other):
        return (isinstance(other, Atlas) and self.box == other.box and self.names == other.names
                and self.logs == other.logs)

    def __len__(self):
        return len(self.legs())


def lots_left_in(box, lots):
    """The lots, rising, of which the box has more than these."""
    return [lot for lot in range(HOW_MANY_LOTS) if box[lot] > lots.count(lot)]


def first_not_dealt(box, lots):
    """The number of the first thing that is no lot or of which the box has no more; None where there is none."""
    for at, thing in enumerate(lots):
        if not is_lot(thing) or thing not in lots_left_in(box, lots[:at]):
            return at
    return None


def refuse_unless_dealt(atlas, dealing):
    """Refuse what is no dealing that the box of the atlas lets by."""
    if len(dealing) != len(atlas):
        raise NoDealing(len(atlas))
    at = first_not_dealt(atlas.box, dealing)
    if at is not None:
        raise NoDealing(at)


def is_dealt(atlas, dealing):
    """Whether the thing is a dealing that the box lets by."""
    return is_row(dealing) and len(dealing) == len(atlas) and first_not_dealt(atlas.box, dealing) is None


def told(atlas, dealing, name):
    """The facts of the walker's log with the lots that the dealing deals its legs."""
    refuse_unless_dealt(atlas, dealing)
    log = atlas.log(name)
    return facts(log, [lot for leg, lot in zip(atlas.legs(), dealing) if leg[0] == name])


def refuse_unless_leg(atlas, name, leg):
    """Refuse a name that no walker has, then a number that no leg of its log has."""
    legs = legs_in(atlas.log(name))
    if not 0 <= leg < legs:
        raise NoLeg(name, leg)


def lone_signs(log):
    """The lone signs that the log tells."""
    return [entry[-1] for entry in log if entry[0] in ("sign", "spy") and is_lone(entry[-1])]


def groups(atlas):
    """The groups of walkers whose logs are linked by lone signs."""
    parted = []
    for name, log in zip(atlas.names, atlas.logs):
        names, signs = [name], lone_signs(log)
        aside = []
        for others, others_signs in parted:
            if any([sign in others_signs for sign in signs]):
                names, signs = names + others, signs + others_signs
            else:
                aside.append((others, others_signs))
        parted = [*aside, (names, signs)]
    return tuple(sorted([tuple(sorted(names)) for names, signs in parted]))
