"""What is asked and kept of anything that may be handed in."""

# A thing may be nested without end; below this depth its lists are shared
# rather than copied, so that the calls stay few.
DEEPEST = 100


def is_whole(thing):
    """Whether the thing is a whole number; a truth is none, though Python counts it among the integers."""
    return isinstance(thing, int) and not isinstance(thing, bool)


def kept(thing, deep=DEEPEST):
    """An equal thing with lists of its own, so that a caller who alters a list later doesn't alter what is kept."""
    if deep == 0:
        return thing
    if isinstance(thing, list):
        return [kept(part, deep - 1) for part in thing]
    if isinstance(thing, tuple):
        return tuple([kept(part, deep - 1) for part in thing])
    return thing
