"""Entries, logs, dealings and atlases as texts, and read from texts."""

from wayneedle.atlas import HOW_MANY_LOTS, Atlas
from wayneedle.errors import BadLog, NoText
from wayneedle.logs import held_log, is_entry, is_name
from wayneedle.lots import is_lot

FIGURES = "0123456789"

MOST_FIGURES = 30

# What is written where there are no entries or no lots.
NONE_AT_ALL = "-"


def entry_text(entry):
    """The words and numbers of the entry."""
    return " ".join([str(part) for part in entry])


def log_text(log):
    """The texts of the log's entries."""
    return "; ".join([entry_text(entry) for entry in log]) or NONE_AT_ALL


def dealing_text(dealing):
    """The lots of the dealing."""
    return " ".join([str(lot) for lot in dealing]) or NONE_AT_ALL


def atlas_text(atlas):
    """A line for the box of the atlas, and one for each walker."""
    box = " ".join(["box", *[str(many) for many in atlas.box]])
    return "\n".join([box, *[f"{name}: {log_text(log)}" for name, log in zip(atlas.names, atlas.logs)]])


def number_in(word):
    """The number from 0 on that the word writes by figures; None where it writes none."""
    if not 1 <= len(word) <= MOST_FIGURES or not all([figure in FIGURES for figure in word]):
        return None
    if word[0] == "0" and len(word) > 1:
        return None
    return int(word)


def entry_in(text):
    """The entry that the text writes; None where it writes none."""
    words = text.split(" ")
    if words[0] in ("go", "spy") and len(words) > 1:
        words[1] = number_in(words[1])
    return tuple(words) if is_entry(words) else None


def read_entry(text):
    """The entry that the text writes."""
    entry = entry_in(text)
    if entry is None:
        raise NoText(0)
    return entry


def read_log(text):
    """The log that the text writes."""
    if text == NONE_AT_ALL:
        return ()
    try:
        return held_log([entry_in(part) for part in text.split("; ")])
    except BadLog as why:
        raise NoText(why.at) from None


def read_dealing(text):
    """The dealing that the text writes."""
    if text == NONE_AT_ALL:
        return ()
    lots = [number_in(word) for word in text.split(" ")]
    for at, lot in enumerate(lots):
        if not is_lot(lot):
            raise NoText(at)
    return tuple(lots)


def box_in(line):
    """The box that the line writes; None where it writes none."""
    words = line.split(" ")
    box = [number_in(word) for word in words[1:]]
    return box if words[0] == "box" and len(box) == HOW_MANY_LOTS and None not in box else None


def pair_in(line):
    """The name and the log that the line writes; None where it writes none."""
    name, between, text = line.partition(": ")
    if not is_name(name):
        return None
    try:
        return (name, read_log(text))
    except NoText:
        return None


def read_atlas(text):
    """The atlas that the text writes."""
    lines = text.split("\n")
    box = box_in(lines[0])
    if box is None:
        raise NoText(0)
    pairs = []
    for at, line in enumerate(lines[1:], start=1):
        pair = pair_in(line)
        if pair is None or (pairs and pair[0] <= pairs[-1][0]):
            raise NoText(at)
        pairs.append(pair)
    return Atlas(box, pairs)
