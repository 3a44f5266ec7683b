"""Things that tests hand in, and ways to hand them in."""

FAR = 10 ** 30 - 1


def listed(thing):
    """The thing with a list in the place of each tuple, also within others."""
    if isinstance(thing, (tuple, list)):
        return [listed(part) for part in thing]
    return thing


def nested(depth, thing=()):
    """A list that stands in a tuple, that in a list, and so on, so many deep."""
    for at in range(depth):
        thing = (thing,) if at % 2 else [thing]
    return thing


def odd_things():
    """Things that are neither texts nor small numbers, made anew at each call since tests may alter them."""
    return [
        -1, FAR, -FAR, True, False, None,
        (), ("a",), ("n",), ("A", "b"), (1, 2), [], ["a"], ["Oak"], [["a"]], ((), []), nested(150),
    ]


def no_texts():
    """Things that are no texts."""
    return [0, 1, 7, *odd_things()]


def no_lots():
    """Things that are no lots."""
    return odd_things() + [
        8, 9, -2, -8, 100, 2 ** 64, 2 ** 64 + 3, FAR - 7, "", "n", "0", "3", "7", " 1", "Oak", "~" * 4000,
        (0,), (3,), [0], [3], [7, 7], [[3]], ([1], (2,)), ((), 1), nested(400),
    ]


def flat(thing):
    """The classes and parts of the thing in one row, however deep it is nested; it holds none of its lists."""
    row, waiting = [], [thing]
    while waiting:
        part = waiting.pop()
        if isinstance(part, (tuple, list)):
            row.append((type(part), len(part)))
            waiting.extend(part)
        else:
            row.append((type(part), part))
    return row


def alike(one, other):
    """Whether the two are equal and of the same classes throughout, so that 1 is not alike True nor () alike []."""
    return flat(one) == flat(other)


def caught(error, call, *args, **named):
    """The error of just this class that the call raises; fails where the call alters what it was handed."""
    before = flat([args, *named.values()])
    try:
        told = call(*args, **named)
    except Exception as why:
        if type(why) is not error:
            raise
        if flat([args, *named.values()]) != before:
            raise AssertionError(f"{call} altered what it was handed") from why
        return why
    raise AssertionError(f"{call} told {told!r} of {args!r} {named!r}")


def spoilt(chance, thing):
    """The thing with some part altered, left out or said twice."""
    if isinstance(thing, tuple) and thing and chance.random() < 0.85:
        at = chance.randrange(len(thing))
        return (*thing[:at], spoilt(chance, thing[at]), *thing[at + 1:])
    if isinstance(thing, int):
        return chance.choice((thing + 1, thing - 1, thing, True, None, str(thing)))
    if isinstance(thing, str):
        return chance.choice(("ann", "bob", "cy", "dora", "eve", "thread", "case", "so", thing, None, 0))
    at = chance.randrange(len(thing)) if thing else 0
    return chance.choice((thing[:at] + thing[at + 1:], thing[:at] + thing[at:at + 1] + thing[at:], thing[::-1], list(thing)))
