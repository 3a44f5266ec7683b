"""What is asked and kept of anything that may be handed in."""


def is_whole(thing):
    """Whether the thing is a whole number; a truth is none, though Python counts it among the integers."""
    return isinstance(thing, int) and not isinstance(thing, bool)


def is_row(thing):
    """Whether the thing is a tuple, or a list, which may be handed in wherever a tuple may."""
    return isinstance(thing, (tuple, list))


def laid_out(thing):
    """The thing and all that it is made of, each whole ahead of its parts, and where the parts of each begin."""
    things = [thing]
    begins = []
    while len(begins) < len(things):
        whole = things[len(begins)]
        begins.append(len(things))
        if is_row(whole):
            things.extend(list(whole))
    return things, begins


def kept(thing):
    """An equal thing with lists of its own, so that a caller who alters a list later doesn't alter what is kept."""
    # A thing may be nested deeper than calls may be, so this is done without a call for each depth.
    things, begins = laid_out(thing)
    at = len(things)
    anew = [False] * at
    # From the end on, each whole finds its parts made already.
    while at > 0:
        at -= 1
        whole = things[at]
        if is_row(whole):
            begin, end = begins[at], begins[at] + len(whole)
            # A tuple without lists in it can't be altered; only the others are made anew.
            anew[at] = isinstance(whole, list) or any(anew[begin:end])
            if anew[at]:
                things[at] = things[begin:end] if isinstance(whole, list) else tuple(things[begin:end])
    return things[0]
