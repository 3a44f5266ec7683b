"""What is the same in each dealing that fits: the lots of legs, and how far lone signs are apart."""

from wayneedle.atlas import groups, lone_signs, lots_left_in
from wayneedle.bars import is_right, settled
from wayneedle.errors import NoSign
from wayneedle.fits import all_that_fit, fits, weave_that_fits
from wayneedle.things import is_row, is_whole
from wayneedle.weave import Teller


def lots_left(atlas):
    """For each leg the lots, rising, that some dealing that fits deals it."""
    found = fits(atlas)
    return tuple([tuple(sorted(set([dealing[at] for dealing in found]))) for at in range(len(atlas))])


def is_told(atlas, thing):
    """Whether the thing is a lone sign that a log of the atlas tells."""
    return any([thing in lone_signs(log) for log in atlas.logs])


def refuse_unless_told(atlas, one, other):
    """Refuse the first of the two texts that is no lone sign which a log of the atlas tells."""
    for sign in (one, other):
        if not is_told(atlas, sign):
            raise NoSign(sign)


def group_of(atlas, sign):
    """The group whose logs tell the lone sign."""
    return [group for group in groups(atlas) if any([sign in lone_signs(atlas.log(name)) for name in group])][0]


def are_linked(atlas, one, other):
    """Whether the logs of one group tell both lone signs."""
    return group_of(atlas, one) == group_of(atlas, other)


def apart(atlas, dealing, one, other):
    """How far the lone sign other lies from the one with the dealing; None where they are not linked."""
    weave = weave_that_fits(atlas, dealing)
    refuse_unless_told(atlas, one, other)
    return weave.between(one, other)


def is_place(thing):
    """Whether the thing is a place."""
    return is_row(thing) and len(thing) == 2 and is_whole(thing[0]) and is_whole(thing[1])


def shows(atlas, one, other, place, paper):
    """Whether the thing is a right paper for the two lone signs and the place: it shows that they are so apart."""
    if not is_told(atlas, one) or not is_told(atlas, other) or not is_place(place):
        return False
    return is_right(Teller(atlas), paper, {}, (one, other, tuple(place)))


def sure_among(atlas, found, one, other):
    """What surely tells of the two lone signs, but without papers, where these dealings fit, each with its weave."""
    if not found:
        return ("barred",)
    if not are_linked(atlas, one, other):
        return ("unlinked",)
    least, first = found[0]
    place = first.between(one, other)
    for dealing, weave in found:
        if weave.between(one, other) != place:
            return ("unlike", least, dealing)
    return ("apart", place)


def paper_behind(teller, lots, goal):
    """A paper for the dealings that begin with these lots; the two signs of the goal are so apart in all that fit."""
    one, other, place = goal
    weave = teller.woven(lots)
    thread = weave.bad_thread()
    if thread is not None:
        return ("thread", thread)
    # Where no dealing behind these lots fits, they may be otherwise apart; then a leg more tells why.
    if weave.between(one, other) == place:
        first, last = weave.ends(one, other)
        return ("so", weave.thread(first, last))
    name, leg = teller.order[len(lots)]
    left = lots_left_in(teller.box, lots)
    return ("case", name, leg, tuple([(lot, paper_behind(teller, (*lots, lot), goal)) for lot in left]))


def surely(atlas, one, other):
    """What is so of the two lone signs in each dealing that fits, with a paper that shows it."""
    refuse_unless_told(atlas, one, other)
    so = sure_among(atlas, all_that_fit(atlas), one, other)
    if so[0] == "barred":
        return settled(atlas)
    if so[0] == "apart":
        place = so[1]
        return ("apart", place, paper_behind(Teller(atlas), (), (one, other, place)))
    return so
