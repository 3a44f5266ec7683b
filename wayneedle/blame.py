"""Whom to leave out so that a dealing fits, and which compasses to look into so that the dealing is known."""

from wayneedle.atlas import HOW_MANY_LOTS
from wayneedle.bars import are_branches
from wayneedle.errors import NoFit, TooMany
from wayneedle.fits import fits
from wayneedle.lots import is_lot
from wayneedle.things import is_row, is_whole

# How many dealings at most may fit where a plan is asked for.
MOST_DEALINGS = 8


def fits_without(atlas, names):
    """Whether a dealing fits where these walkers are left out."""
    left = atlas
    for name in names:
        left = left.without(name)
    return len(fits(left, most=1)) == 1


def holds_one(names, sets):
    """Whether all names of one of the sets are among the names."""
    return any([all([name in names for name in few]) for few in sets])


def blamed(atlas):
    """All least sets of walkers without which a dealing fits, by how many they have, then as tuples compare."""
    least = []
    sets = [()]
    while sets:
        enough = [names for names in sets if fits_without(atlas, names)]
        least.extend(enough)
        wider = [(*names, name) for names in sets for name in atlas.names if names == () or names[-1] < name]
        # Who holds a set that is enough has somebody who can stay.
        sets = [names for names in wider if not holds_one(names, least)]
    return tuple(least)


def question(atlas):
    """The leg to look into first, and how many dealings that leaves at most; None where fewer than two fit."""
    found = fits(atlas)
    if len(found) < 2:
        return None
    best = None
    for at, (name, leg) in enumerate(atlas.legs()):
        lots = [dealing[at] for dealing in found]
        most = max([lots.count(lot) for lot in range(HOW_MANY_LOTS)])
        if best is None or most < best[2]:
            best = (name, leg, most)
    return best


def parted(found, at):
    """The dealings by the lot that they deal the leg of this number; pairs of a lot and dealings, the lots rising."""
    lots = sorted(set([dealing[at] for dealing in found]))
    return [(lot, tuple([dealing for dealing in found if dealing[at] == lot])) for lot in lots]


def look_first(legs, at, found, plans):
    """The depth and the plan of a look into the leg of this number, with least plans behind it."""
    name, leg = legs[at]
    behind = [(lot, least_plan(legs, some, plans)) for lot, some in parted(found, at)]
    depth = 1 + max([below[0] for lot, below in behind])
    return depth, ("look", name, leg, tuple([(lot, below[1]) for lot, below in behind]))


def least_plan(legs, found, plans):
    """The least depth and a plan of that depth for these dealings, one at least; plans keeps those made already."""
    if len(found) == 1:
        return 0, ("known", found[0])
    if found not in plans:
        # A leg that all of them deal the same lot tells nothing new.
        telling = [at for at in range(len(legs)) if len(parted(found, at)) > 1]
        looks = [look_first(legs, at, found, plans) for at in telling]
        depth = min([look[0] for look in looks])
        plans[found] = [look for look in looks if look[0] == depth][0]
    return plans[found]


def asking(atlas):
    """A right plan of the least depth."""
    found = fits(atlas)
    if not found:
        raise NoFit("no dealing fits")
    if len(found) > MOST_DEALINGS:
        raise TooMany(len(found))
    return least_plan(atlas.legs(), found, {})[1]


def is_just(thing, left):
    """Whether the thing is a dealing and the only one that is left."""
    # A truth equals a lot, so of each is asked whether it is one.
    return is_row(thing) and all([is_lot(lot) for lot in thing]) and (tuple(thing),) == left


def is_look(legs, thing):
    """Whether the thing is of the form of a look into one of the legs, whatever its branches."""
    if len(thing) != 4 or thing[0] != "look":
        return False
    return is_whole(thing[2]) and (thing[1], thing[2]) in legs


def plans_behind(legs, thing, left):
    """Pairs of what must be a plan behind this one and the dealings it is for; None where this can't be a right one."""
    if not is_row(thing):
        return None
    if len(thing) == 2 and thing[0] == "known":
        return [] if is_just(thing[1], left) else None
    if not is_look(legs, thing):
        return None
    parts = parted(left, legs.index((thing[1], thing[2])))
    if not are_branches(thing[3], [lot for lot, some in parts]):
        return None
    return [(below[1], part[1]) for below, part in zip(thing[3], parts)]


def known_by(atlas, plan):
    """Whether the thing is a right plan."""
    found = fits(atlas)
    if not found:
        return False
    legs = atlas.legs()
    # A plan may be deeper than calls may be, so those behind one another wait in a row.
    waiting = [(plan, found)]
    while waiting:
        thing, left = waiting.pop()
        behind = plans_behind(legs, thing, left)
        if behind is None:
            return False
        waiting.extend(behind)
    return True
