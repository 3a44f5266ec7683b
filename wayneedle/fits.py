"""Which dealings the logs of an atlas allow."""

from wayneedle.atlas import lots_left_in, refuse_unless_dealt
from wayneedle.weave import Teller


def spread(atlas, dealing):
    """Where the walkers start with the dealing, or a thread that is bad with it."""
    refuse_unless_dealt(atlas, dealing)
    weave = Teller(atlas).woven(dealing)
    thread = weave.bad_thread()
    if thread is not None:
        return ("bad", thread)
    return ("spread", tuple([(name, weave.starts[name]) for name in atlas.names]))


def gather(teller, lots, most, found):
    """Put the dealings that fit and begin with these lots to those found, rising, till these are so many."""
    # A thread that is bad with the first lots is bad with all dealings that begin with them.
    if len(found) == most or teller.woven(lots).bad_thread() is not None:
        return
    if len(lots) == len(teller.order):
        found.append(lots)
        return
    for lot in lots_left_in(teller.box, lots):
        gather(teller, (*lots, lot), most, found)


def fits(atlas, *, most=None):
    """All dealings that fit, rising, or the first so many of them."""
    found = []
    gather(Teller(atlas), (), most, found)
    return tuple(found)
