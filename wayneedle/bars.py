"""Threads that are bad, and papers that show that no dealing fits."""

from wayneedle.atlas import lots_left_in, refuse_unless_dealt
from wayneedle.lots import is_lot
from wayneedle.things import is_row, is_whole
from wayneedle.weave import Teller, added, is_lone_fact, less

# The words of two facts that can't be told of one place where they tell unlike things.
WORDS_OF_PLACES = (("sign", "sign"), ("sign", "bare"), ("bare", "sign"))

WORDS_OF_WAYS = (("open", "shut"), ("shut", "open"))


def is_number_in(row, thing):
    """Whether the thing is the number of something in the row."""
    return is_whole(thing) and 0 <= thing < len(row)


def is_stretch(rows, thing):
    """Whether the thing is a stretch between two of the facts, which are told by names."""
    if not is_row(thing) or len(thing) != 3:
        return False
    name, one, other = thing
    if not isinstance(name, str) or name not in rows:
        return False
    return is_number_in(rows[name], one) and is_number_in(rows[name], other)


def are_like_lone(one, other):
    """Whether the two facts tell a like lone sign."""
    return is_lone_fact(one) and one[3] == other[3]


def is_thread(rows, thing):
    """Whether the thing is a thread along these facts."""
    if not is_row(thing) or len(thing) == 0 or not all([is_stretch(rows, part) for part in thing]):
        return False
    begins = [rows[name][one] for name, one, other in thing]
    ends = [rows[name][other] for name, one, other in thing]
    return all([are_like_lone(end, begin) for end, begin in zip(ends, begins[1:])])


def sum_of(rows, thread):
    """How far the thread leads."""
    total = (0, 0)
    for name, one, other in thread:
        total = added(total, less(rows[name][other][2], rows[name][one][2]))
    return total


def can_not_be(one, other, total):
    """Whether the two facts gainsay one another where the other lies so far from the one."""
    if are_like_lone(one, other):
        return total != (0, 0)
    if total != (0, 0):
        return False
    words = (one[1], other[1])
    if words in WORDS_OF_PLACES:
        return one[3] != other[3]
    return words in WORDS_OF_WAYS and one[3] == other[3]


def ends_of(rows, thread):
    """The two facts that are the ends of the thread."""
    first, last = thread[0], thread[-1]
    return rows[first[0]][first[1]], rows[last[0]][last[2]]


def is_bad_thread(rows, thing):
    """Whether the thing is a thread along these facts that is bad."""
    if not is_thread(rows, thing):
        return False
    first, last = ends_of(rows, thing)
    return can_not_be(first, last, sum_of(rows, thing))


def is_so(rows, thing, goal):
    """Whether the thing is a thread along these facts that leads from the one sign to the other, so far apart."""
    if goal is None or not is_thread(rows, thing):
        return False
    one, other, place = goal
    first, last = ends_of(rows, thing)
    # Both are lone signs, and only facts of the word sign tell such.
    return first[3] == one and last[3] == other and sum_of(rows, thing) == place


def is_bad(atlas, dealing, thread):
    """Whether the thing is a thread that is bad with the dealing."""
    refuse_unless_dealt(atlas, dealing)
    rows = Teller(atlas).settled_facts(dict(zip(atlas.legs(), dealing)))
    return is_bad_thread(rows, thread)


def is_left(teller, name, leg, dealt):
    """Whether the two are a leg of the atlas that is not dealt."""
    # A truth equals a number, so of the leg is asked whether it is one.
    return is_whole(leg) and (name, leg) in teller.order and (name, leg) not in dealt


def are_branches(thing, lots):
    """Whether the thing is pairs of a lot and something, their lots just these."""
    if not is_row(thing) or not all([is_row(pair) and len(pair) == 2 for pair in thing]):
        return False
    firsts = [first for first, below in thing]
    # A truth equals a lot, so of each is asked whether it is one.
    return all([is_lot(first) for first in firsts]) and firsts == lots


def dealt_too(dealt, leg, lot):
    """The legs that are dealt, and this one, too."""
    more = {other: dealt[other] for other in dealt}
    more[leg] = lot
    return more


def is_right_case(teller, paper, dealt, goal):
    """Whether the three behind the word make a case that is right with the legs that are dealt."""
    name, leg, branches = paper[1:]
    lots = lots_left_in(teller.box, list(dealt.values()))
    if not is_left(teller, name, leg, dealt) or not are_branches(branches, lots):
        return False
    for lot, below in branches:
        if not is_right(teller, below, dealt_too(dealt, (name, leg), lot), goal):
            return False
    return True


def is_right(teller, paper, dealt, goal):
    """Whether the thing is a paper that is right with the legs that are dealt.

    The goal is None, or two lone signs and a place for which the paper may show that they are so far apart.
    """
    if not is_row(paper):
        return False
    if len(paper) == 2 and paper[0] == "thread":
        return is_bad_thread(teller.settled_facts(dealt), paper[1])
    if len(paper) == 2 and paper[0] == "so":
        return is_so(teller.settled_facts(dealt), paper[1], goal)
    return len(paper) == 4 and paper[0] == "case" and is_right_case(teller, paper, dealt, goal)


def bars(atlas, paper):
    """Whether the thing is a right paper: it shows that no dealing fits."""
    return is_right(Teller(atlas), paper, {}, None)


def settled_behind(teller, lots):
    """What is settled of the dealings that begin with these lots: the least that fits, or a paper."""
    thread = teller.woven(lots).bad_thread()
    if thread is not None:
        return ("barred", ("thread", thread))
    if len(lots) == len(teller.order):
        return ("fits", lots)
    branches = []
    for lot in lots_left_in(teller.box, lots):
        below = settled_behind(teller, (*lots, lot))
        if below[0] == "fits":
            return below
        branches.append((lot, below[1]))
    name, leg = teller.order[len(lots)]
    return ("barred", ("case", name, leg, tuple(branches)))


def settled(atlas):
    """The least dealing that fits, or a paper that shows that there is none."""
    return settled_behind(Teller(atlas), ())
