"""Where walkers stand and look along their logs, and the facts that they tell."""

from wayneedle.errors import NoDealing
from wayneedle.logs import legs_in
from wayneedle.lots import LETTERS, is_lot, step, true, way_of

# By how many quarters to the right each of these turns the body.
QUARTERS = {"right": 1, "back": 2, "left": 3}

START = ((0, 0), "")


def refuse_unless_lots(log, lots):
    """Refuse what isn't one lot for each leg of the log."""
    legs = legs_in(log)
    if len(lots) != legs:
        raise NoDealing(legs)
    for at, thing in enumerate(lots):
        if not is_lot(thing):
            raise NoDealing(at)


def gone(place, letter, many):
    """The place that lies so many steps that way of the place."""
    east, north = step(letter)
    return (place[0] + many * east, place[1] + many * north)


def look_behind(entry, lot, look):
    """The letter of the way one looks behind the entry, of the one ahead of it."""
    word = entry[0]
    if word == "face":
        return true(lot, entry[1])
    if word in QUARTERS:
        return LETTERS[(LETTERS.index(look) + QUARTERS[word]) % 4]
    return look


def track(log, lots):
    """The place and the look behind each entry."""
    refuse_unless_lots(log, lots)
    place, look = START
    leg = 0
    stands = []
    for entry in log:
        if entry[0] == "swap":
            leg += 1
        look = look_behind(entry, lots[leg], look)
        if entry[0] == "go":
            place = gone(place, look, entry[1])
        stands.append((place, look))
    return tuple(stands)


def way_fact(at, word, place, look):
    """The fact that the way ahead of the place is as the word tells."""
    east, north, side = way_of(place, look)
    return (at, word, (east, north), side)


def facts_of_entry(at, entry, place, look):
    """The facts of the entry with the number at, of where one stands and looks ahead of it."""
    word = entry[0]
    if word == "sign":
        return [(at, "sign", place, entry[1])]
    if word == "spy":
        return [(at, "sign", gone(place, look, entry[1]), entry[2])]
    if word == "bare":
        return [(at, "bare", place, "")]
    if word == "go":
        return [way_fact(at, "open", gone(place, look, done), look) for done in range(entry[1])]
    if word == "bump":
        return [way_fact(at, "shut", place, look)]
    return []


def facts(log, lots):
    """All facts of the log, in the order of its entries."""
    behind = track(log, lots)
    ahead = [START, *behind]
    found = []
    for at, entry in enumerate(log):
        place, look = ahead[at]
        found.extend(facts_of_entry(at, entry, place, look))
    return tuple(found)
