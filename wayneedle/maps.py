"""The land of a group of walkers: all that is told of it, and a drawing."""

from wayneedle.errors import NoWalker
from wayneedle.fits import weave_that_fits
from wayneedle.weave import added


def moved_facts(weave, name):
    """The word, the place in the land and the what of each fact that is told in the land of the walker."""
    found = []
    for other in weave.land_with(name):
        start = weave.starts[other]
        found.extend([(word, added(start, place), what) for entry, word, place, what in weave.rows[other]])
    return found


def each_once(things):
    """The things, sorted, each once."""
    return tuple(sorted(set(things)))


def ways_told(moved, told_word):
    """The ways, sorted, of which the facts tell the word."""
    return each_once([(*place, side) for word, place, side in moved if word == told_word])


def charted(atlas, dealing, name):
    """The signs, the bare places, the open and the shut ways in the land of the walker with the dealing."""
    weave = weave_that_fits(atlas, dealing)
    if name not in atlas.names:
        raise NoWalker(name)
    moved = moved_facts(weave, name)
    signs = each_once([(place, sign) for word, place, sign in moved if word == "sign"])
    bares = each_once([place for word, place, what in moved if word == "bare"])
    return (signs, bares, ways_told(moved, "open"), ways_told(moved, "shut"))


def both_ends(way):
    """The two places that the way lies between."""
    east, north, side = way
    return [(east, north), (east, north + 1) if side == "n" else (east + 1, north)]


def places_shown(signs, bares, ways):
    """The places that a drawing must hold."""
    places = [(0, 0), *[place for place, sign in signs], *bares]
    for way in ways:
        places.extend(both_ends(way))
    return places


def marks_of(signs, bares, opens, shuts):
    """The sign with which a drawing shows each place and each way of which something is told."""
    marks = {}
    for place, sign in signs:
        marks[place] = sign[0]
    for place in bares:
        marks[place] = "."
    for way in opens:
        marks[way] = "-" if way[2] == "e" else "|"
    for way in shuts:
        marks[way] = "#"
    return marks


def row_of_places(marks, north, easts):
    """The row of a drawing that shows the places so far north and the ways between them."""
    signs = []
    for east in easts:
        signs.append(marks.get((east, north), "?"))
        signs.append(marks.get((east, north, "e"), " "))
    # East of the last place the drawing ends.
    return "".join(signs[:-1])


def row_of_ways(marks, north, easts):
    """The row of a drawing that shows the ways that go north from the places so far north."""
    return " ".join([marks.get((east, north, "n"), " ") for east in easts])


def drawn(atlas, dealing, name):
    """A drawing of the land of the walker with the dealing."""
    signs, bares, opens, shuts = charted(atlas, dealing, name)
    marks = marks_of(signs, bares, opens, shuts)
    places = places_shown(signs, bares, [*opens, *shuts])
    easts = list(range(min([east for east, north in places]), max([east for east, north in places]) + 1))
    southmost = min([north for east, north in places])
    north = max([north for east, north in places])
    rows = [row_of_places(marks, north, easts)]
    while north > southmost:
        north -= 1
        rows.append(row_of_ways(marks, north, easts))
        rows.append(row_of_places(marks, north, easts))
    return "\n".join(rows)
