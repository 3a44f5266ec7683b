"""Letters, places, ways, and lots: how compasses are off."""

from wayneedle.errors import NoLot
from wayneedle.things import is_whole

LETTERS = "nesw"

STEPS = {"n": (0, 1), "e": (1, 0), "s": (0, -1), "w": (-1, 0)}


def is_letter(thing):
    """Whether the thing is one of the four letters."""
    return isinstance(thing, str) and thing in STEPS


def step(letter):
    """What one step that way adds to a place."""
    return STEPS[letter]


def way_of(place, letter):
    """The way that one takes with a step from the place."""
    east, north = place
    # A way is named by its southern or western end, so that both ends name it alike.
    if letter == "s":
        return (east, north - 1, "n")
    if letter == "w":
        return (east - 1, north, "e")
    return (east, north, letter)


def is_lot(thing):
    """Whether the thing is a lot."""
    return is_whole(thing) and 0 <= thing <= 7


def refuse_unless_lot(thing):
    """Refuse what is no lot."""
    if not is_lot(thing):
        raise NoLot(thing)


def mirrors(lot):
    """Whether the letters run round to the left on a compass that is off by the lot."""
    return lot >= 4


def true(lot, letter):
    """The letter of the way one truly looks when the compass shows the letter."""
    refuse_unless_lot(lot)
    at = LETTERS.index(letter)
    if mirrors(lot):
        return LETTERS[(lot - at) % 4]
    return LETTERS[(lot + at) % 4]


def shown(lot, letter):
    """The letter that the compass shows when one truly looks that way."""
    return true(undone(lot), letter)


def both(one, other):
    """The lot that does what the other lot and then the one do."""
    refuse_unless_lot(one)
    refuse_unless_lot(other)
    # A mirror turns what comes ahead of it the other way about.
    quarters = one - other if mirrors(one) else one + other
    # Two mirrors undo one another, so only one of two makes the outcome a mirror.
    if mirrors(one) != mirrors(other):
        return quarters % 4 + 4
    return quarters % 4


def undone(lot):
    """The lot that leads each letter back from where the lot led it."""
    refuse_unless_lot(lot)
    if mirrors(lot):
        return lot
    return -lot % 4


def turned(lot, place):
    """The place, turned about (0, 0) as the lot turns the letters."""
    east, north = place
    along_east = step(true(lot, "e"))
    along_north = step(true(lot, "n"))
    return (east * along_east[0] + north * along_north[0], east * along_east[1] + north * along_north[1])
