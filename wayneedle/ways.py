"""Roads along open ways, and letters that lead right whichever dealing is the true one."""

from wayneedle.atlas import refuse_unless_leg
from wayneedle.errors import NoFit, NoLink, TooMany
from wayneedle.fits import all_that_fit, weave_that_fits
from wayneedle.lots import LETTERS, is_letter, step, true, way_of
from wayneedle.maps import moved_facts
from wayneedle.sure import are_linked, refuse_unless_told
from wayneedle.things import is_row
from wayneedle.weave import added

# How many dealings at most may fit where a sure way is asked for.
MOST_DEALINGS = 6


class Walk:
    """A walk by a compass from the one lone sign to the other, in the land that a weave tells."""

    def __init__(self, weave, lot, one, other):
        first, last = weave.ends(one, other)
        self.lot = lot
        self.begin = weave.place_of(first[0], first[1])
        self.end = weave.place_of(last[0], last[1])
        self.ways = {(*place, side): True for word, place, side in moved_facts(weave, first[0]) if word == "open"}

    def beyond(self, place, letter):
        """The place one step off, where the compass shows the letter; None where no open way leads there."""
        truly = true(self.lot, letter)
        if way_of(place, truly) not in self.ways:
            return None
        return added(place, step(truly))

    def led_by(self, letters):
        """Whether the letters lead along open ways to the end."""
        place = self.begin
        for letter in letters:
            place = self.beyond(place, letter)
            if place is None:
                return False
        return place == self.end


def all_beyond(walks, places, letter):
    """The place of each walk one step further; None where one of them can't go there."""
    further = [walk.beyond(place, letter) for walk, place in zip(walks, places)]
    return None if None in further else tuple(further)


def fewest_letters(walks):
    """The fewest letters that lead in all walks, the first of several; None where none lead."""
    begin = tuple([walk.begin for walk in walks])
    end = tuple([walk.end for walk in walks])
    # The first letters that reach some places are the first of the fewest, as those reached first go on first.
    letters_to = {begin: ()}
    reached = [begin]
    done = 0
    while done < len(reached) and end not in letters_to:
        places = reached[done]
        for letter in LETTERS:
            further = all_beyond(walks, places, letter)
            if further is not None and further not in letters_to:
                letters_to[further] = (*letters_to[places], letter)
                reached.append(further)
        done += 1
    return letters_to.get(end)


def refuse_unless_linked(atlas, one, other):
    """Refuse texts that are no lone signs of the atlas, then those that are not linked."""
    refuse_unless_told(atlas, one, other)
    if not are_linked(atlas, one, other):
        raise NoLink("the signs are not linked")


def road(atlas, dealing, one, other):
    """The fewest steps from the one lone sign to the other with the dealing; None where no open ways lead there."""
    weave = weave_that_fits(atlas, dealing)
    refuse_unless_linked(atlas, one, other)
    # With the lot 0 the compass shows the way one truly looks.
    return fewest_letters([Walk(weave, 0, one, other)])


def walks_that_fit(atlas, name, leg, one, other):
    """For each dealing that fits a walk by the compass of the leg."""
    refuse_unless_leg(atlas, name, leg)
    refuse_unless_linked(atlas, one, other)
    found = all_that_fit(atlas)
    if not found:
        raise NoFit("no dealing fits")
    at = atlas.legs().index((name, leg))
    return [Walk(weave, dealing[at], one, other) for dealing, weave in found]


def leads(atlas, name, leg, one, other, letters):
    """Whether the thing is letters that, shown by the compass of the leg, lead right with each dealing that fits."""
    walks = walks_that_fit(atlas, name, leg, one, other)
    if not is_row(letters) or not all([is_letter(letter) for letter in letters]):
        return False
    return all([walk.led_by(letters) for walk in walks])


def sure_way(atlas, name, leg, one, other):
    """The fewest letters that lead right with each dealing that fits; None where none lead."""
    walks = walks_that_fit(atlas, name, leg, one, other)
    if len(walks) > MOST_DEALINGS:
        raise TooMany(len(walks))
    return fewest_letters(walks)
