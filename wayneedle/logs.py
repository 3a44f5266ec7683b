"""Names, signs, entries and logs."""

from wayneedle.errors import BadLog
from wayneedle.lots import is_letter
from wayneedle.things import is_whole

SMALL = "abcdefghijklmnopqrstuvwxyz"

GREAT = "ABCDEFGHIJKLMNOPQRSTUVWXYZ"

LONGEST = 8

WORDS_ALONE = ("left", "right", "back", "bump", "bare", "swap")

# Which way these go or look is only known once a face has told it.
WORDS_BEHIND_A_FACE = ("left", "right", "back", "go", "bump", "spy")


def is_short_text(thing):
    """Whether the thing is a text as long as a name or a sign may be."""
    return isinstance(thing, str) and 1 <= len(thing) <= LONGEST


def are_small(text):
    """Whether the text has no other signs than small letters."""
    return all([letter in SMALL for letter in text])


def is_name(thing):
    """Whether the thing is a name."""
    return is_short_text(thing) and are_small(thing)


def is_lone(thing):
    """Whether the thing is a lone sign."""
    return is_short_text(thing) and thing[0] in GREAT and are_small(thing[1:])


def is_sign(thing):
    """Whether the thing is a sign."""
    # A sign that isn't lone is written just as a name is.
    return is_name(thing) or is_lone(thing)


def is_many(thing):
    """Whether the thing is a number of steps that one entry may tell."""
    return is_whole(thing) and 1 <= thing <= 9


def is_pair_entry(word, part):
    """Whether the two make an entry."""
    if word == "face":
        return is_letter(part)
    if word == "go":
        return is_many(part)
    return word == "sign" and is_sign(part)


def is_entry(thing):
    """Whether the thing is an entry."""
    if not isinstance(thing, (tuple, list)):
        return False
    if len(thing) == 1:
        return thing[0] in WORDS_ALONE
    if len(thing) == 2:
        return is_pair_entry(thing[0], thing[1])
    return len(thing) == 3 and thing[0] == "spy" and is_many(thing[1]) and is_sign(thing[2])


def held_log(entries):
    """The log that the entries make; BadLog where they make none."""
    faced = False
    log = []
    for at, thing in enumerate(entries):
        if not is_entry(thing):
            raise BadLog("", at)
        if thing[0] in WORDS_BEHIND_A_FACE and not faced:
            raise BadLog("", at)
        faced = faced or thing[0] == "face"
        log.append(tuple(thing))
    return tuple(log)


def legs_in(log):
    """How many legs the log has: each swap begins one more."""
    return 1 + len([entry for entry in log if entry[0] == "swap"])


def first_legs(log, many):
    """The part of the log that is its first legs, so many, one at least."""
    swaps = [at for at, entry in enumerate(log) if entry[0] == "swap"]
    # The swap itself belongs to the leg that it begins.
    return log[:swaps[many - 1]] if many <= len(swaps) else log
