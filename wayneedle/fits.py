"""Which dealings the logs of an atlas allow."""

from wayneedle.atlas import lots_left_in, refuse_unless_dealt
from wayneedle.errors import NoFit
from wayneedle.weave import Teller


def spread(atlas, dealing):
    """Where the walkers start with the dealing, or a thread that is bad with it."""
    refuse_unless_dealt(atlas, dealing)
    weave = Teller(atlas).woven(dealing)
    thread = weave.bad_thread()
    if thread is not None:
        return ("bad", thread)
    return ("spread", tuple([(name, weave.starts[name]) for name in atlas.names]))


def weave_that_fits(atlas, dealing):
    """The weave of all facts with the dealing; NoDealing, then NoFit where it doesn't fit."""
    refuse_unless_dealt(atlas, dealing)
    weave = Teller(atlas).woven(dealing)
    if weave.bad_thread() is not None:
        raise NoFit("the dealing does not fit")
    return weave


def gather(teller, lots, most, found):
    """Put the dealings that fit and begin with these lots to those found, rising, till these are so many."""
    if len(found) == most:
        return
    weave = teller.woven(lots)
    # A thread that is bad with the first lots is bad with all dealings that begin with them.
    if weave.bad_thread() is not None:
        return
    if len(lots) == len(teller.order):
        found.append((lots, weave))
        return
    for lot in lots_left_in(teller.box, lots):
        gather(teller, (*lots, lot), most, found)


def all_that_fit(atlas, most=None):
    """Pairs of a dealing that fits and the weave of all facts with it, rising; the first so many, or all."""
    found = []
    gather(Teller(atlas), (), most, found)
    return found


def fits(atlas, *, most=None):
    """All dealings that fit, rising, or the first so many of them."""
    return tuple([dealing for dealing, weave in all_that_fit(atlas, most)])
