"""Answers reckoned in other ways than the package does, straight along the document's words; lands and walkers at random."""

import itertools

WAYS = ((0, 1), (1, 0), (0, -1), (-1, 0))

LONE = ("Oak", "Elm", "Ash", "Fir", "Yew", "Bay")

SMALL = ("well", "hut", "rock")


def turn(lot, at):
    """The number of the way one truly looks where the compass shows the letter of that number."""
    return (at + lot) % 4 if lot < 4 else (lot - at) % 4


def walk(log, lots):
    """For each entry the place and the look ahead of it and behind it; looks as numbers, None ahead of a face."""
    lots, lot = list(lots[1:]), lots[0]
    here, look, rows = (0, 0), None, []
    for entry in log:
        ahead = (here, look)
        match entry[0]:
            case "face":
                look = turn(lot, "nesw".index(entry[1]))
            case "left":
                look = (look - 1) % 4
            case "right":
                look = (look + 1) % 4
            case "back":
                look = (look + 2) % 4
            case "go":
                here = (here[0] + WAYS[look][0] * entry[1], here[1] + WAYS[look][1] * entry[1])
            case "swap":
                lot = lots.pop(0)
        rows.append((ahead, (here, look)))
    return rows


def track(log, lots):
    return tuple((here, "" if look is None else "nesw"[look]) for ahead, (here, look) in walk(log, lots))


def way(here, look):
    """A way as its lesser end and its side."""
    beyond = (here[0] + WAYS[look][0], here[1] + WAYS[look][1])
    return min(here, beyond), "n" if here[0] == beyond[0] else "e"


def facts(log, lots):
    found = []
    for at, (entry, ((here, look), behind)) in enumerate(zip(log, walk(log, lots))):
        if entry[0] == "sign":
            found.append((at, "sign", here, entry[1]))
        elif entry[0] == "spy":
            found.append((at, "sign", tuple(here[k] + WAYS[look][k] * entry[1] for k in (0, 1)), entry[2]))
        elif entry[0] == "bare":
            found.append((at, "bare", here, ""))
        elif entry[0] == "bump":
            found.append((at, "shut", *way(here, look)))
        elif entry[0] == "go":
            for _ in range(entry[1]):
                found.append((at, "open", *way(here, look)))
                here = (here[0] + WAYS[look][0], here[1] + WAYS[look][1])
    return tuple(found)


def legs(logs):
    """All (name, leg) of the logs, a dict by names."""
    return [(name, leg) for name in sorted(logs) for leg in range(1 + sum(entry[0] == "swap" for entry in logs[name]))]


def dealings(box, logs):
    """All dealings that the box lets by, rising."""
    lots = [lot for lot in range(8) if box[lot]]
    for dealing in itertools.product(lots, repeat=len(legs(logs))):
        if all(dealing.count(lot) <= box[lot] for lot in lots):
            yield dealing


def told(logs, dealing):
    """The facts of each walker, by names."""
    lots = {}
    for (name, leg), lot in zip(legs(logs), dealing):
        lots.setdefault(name, []).append(lot)
    return {name: facts(logs[name], lots[name]) for name in sorted(logs)}


def lone(log):
    return {entry[-1] for entry in log if entry[0] in ("sign", "spy") and entry[-1][0].isupper()}


def groups(logs):
    """The groups of names, found by passing marks on until none changes."""
    mark = {name: name for name in logs}
    for _ in logs:
        for one, other in itertools.permutations(logs, 2):
            if lone(logs[one]) & lone(logs[other]):
                mark[one] = mark[other] = min(mark[one], mark[other])
    return tuple(sorted(tuple(sorted(n for n in logs if mark[n] == first)) for first in set(mark.values())))


def starts(group, rows):
    """The starts of a group's walkers where their lone signs agree, None where they don't."""
    found, signs, grown = {group[0]: (0, 0)}, {}, True
    while grown:
        grown = False
        for name in group:
            for entry, word, place, what in rows[name]:
                if word == "sign" and what[0].isupper():
                    if name in found and what not in signs:
                        signs[what] = (found[name][0] + place[0], found[name][1] + place[1])
                        grown = True
                    if name not in found and what in signs:
                        found[name] = (signs[what][0] - place[0], signs[what][1] - place[1])
                        grown = True
    return found


def land_of(group, rows, found):
    """All that is told of the land: (word, thing) pairs with all that is said of each."""
    said = {}
    for name in group:
        for entry, word, place, what in rows[name]:
            here = (found[name][0] + place[0], found[name][1] + place[1])
            if word in ("sign", "bare"):
                said.setdefault(("place", here), set()).add(what)
            if word == "sign" and what[0].isupper():
                said.setdefault(("lone", what), set()).add(here)
            if word in ("open", "shut"):
                said.setdefault(("way", here, what), set()).add(word)
    return said


def spread(logs, dealing):
    """The starts of all walkers where the dealing fits, else None."""
    rows, found = told(logs, dealing), {}
    for group in groups(logs):
        own = starts(group, rows)
        if any(len(things) > 1 for things in land_of(group, rows, own).values()):
            return None
        found.update(own)
    return tuple((name, found[name]) for name in sorted(logs))


def fits(box, logs):
    return tuple(dealing for dealing in dealings(box, logs) if spread(logs, dealing) is not None)


def is_int(thing):
    return type(thing) is int


def thread_sum(logs, rows, thread):
    """The two ends and the sum of a thread; None where it is none."""
    if type(thread) not in (tuple, list) or not thread:
        return None
    pairs = []
    for stretch in thread:
        if type(stretch) not in (tuple, list) or len(stretch) != 3 or type(stretch[0]) is not str:
            return None
        name, one, other = stretch
        if name not in logs or not is_int(one) or not is_int(other):
            return None
        if not (0 <= one < len(rows[name]) and 0 <= other < len(rows[name])):
            return None
        pairs.append((rows[name][one], rows[name][other]))
    for (_, one), (other, _) in zip(pairs, pairs[1:]):
        if one[1] != "sign" or other[1] != "sign" or one[3] != other[3] or not one[3][0].isupper():
            return None
    total = tuple(sum(other[2][k] - one[2][k] for one, other in pairs) for k in (0, 1))
    return pairs[0][0], pairs[-1][1], total


def is_bad(logs, dealing, thread):
    rows = told(logs, dealing)
    found = thread_sum(logs, rows, thread)
    if found is None:
        return False
    one, other, total = found
    words = {one[1], other[1]}
    if words == {"sign"} and one[3] == other[3] and one[3][0].isupper():
        return total != (0, 0)
    if total != (0, 0):
        return False
    if words == {"sign"}:
        return one[3] != other[3]
    return words == {"sign", "bare"} or (words == {"open", "shut"} and one[3] == other[3])


def leg_of(log, entry):
    return sum(each[0] == "swap" for each in log[:entry + 1])


def is_right(box, logs, paper, dealt=None, goal=None):
    """Whether the paper is right, for the two signs and the place of the goal; points 19 and 23, word by word."""
    dealt = dealt or {}
    if type(paper) not in (tuple, list):
        return False
    if len(paper) == 2 and paper[0] in ("thread", "so"):
        # What is not dealt is filled with two unlike lots: what is settled can't hang on them.
        whole = [tuple(dealt.get(leg, lot) for leg in legs(logs)) for lot in (0, 5)]
        if thread_sum(logs, told(logs, whole[0]), paper[1]) is None:
            return False
        for name, one, other in paper[1]:
            entry = told(logs, whole[0])[name][max(one, other)][0]
            if any((name, leg) not in dealt for leg in range(leg_of(logs[name], entry) + 1)):
                return False
        if paper[0] == "so":
            verdicts = [is_so(logs, lots, paper[1], goal) for lots in whole]
        else:
            verdicts = [is_bad(logs, lots, paper[1]) for lots in whole]
        assert verdicts[0] == verdicts[1]
        return verdicts[0]
    if len(paper) != 4 or paper[0] != "case" or type(paper[1]) is not str or not is_int(paper[2]):
        return False
    leg, branches = (paper[1], paper[2]), paper[3]
    if leg not in legs(logs) or leg in dealt or type(branches) not in (tuple, list):
        return False
    if any(type(pair) not in (tuple, list) or len(pair) != 2 or not is_int(pair[0]) for pair in branches):
        return False
    left = [lot for lot in range(8) if box[lot] > list(dealt.values()).count(lot)]
    if [pair[0] for pair in branches] != left:
        return False
    return all(is_right(box, logs, below, {**dealt, leg: lot}, goal) for lot, below in branches)


def is_so(logs, dealing, thread, goal):
    """Whether the thread leads from the one sign to the other, and so far."""
    if goal is None:
        return False
    one, other, total = thread_sum(logs, told(logs, dealing), thread)
    return (one[1], one[3], other[1], other[3], total) == ("sign", goal[0], "sign", goal[1], goal[2])


def shows(box, logs, one, other, place, paper):
    signs = set().union(*[lone(log) for log in logs.values()])
    if type(one) is not str or type(other) is not str or one not in signs or other not in signs:
        return False
    if type(place) not in (tuple, list) or len(place) != 2 or not all(is_int(part) for part in place):
        return False
    return is_right(box, logs, paper, goal=(one, other, tuple(place)))


def lands(logs, dealing):
    """For each group its land, all (word, place, what) of its facts, moved; of a dealing that fits."""
    rows, found = told(logs, dealing), dict(spread(logs, dealing))
    return {group: {(word, (found[name][0] + place[0], found[name][1] + place[1]), what)
                    for name in group for entry, word, place, what in rows[name]} for group in groups(logs)}


def apart(logs, dealing, one, other):
    for land in lands(logs, dealing).values():
        places = [{place for word, place, what in land if what == sign} for sign in (one, other)]
        if all(places):
            (first,), (last,) = places
            return (last[0] - first[0], last[1] - first[1])
    return None


def surely(box, logs, one, other):
    """What is so of the two, but for papers."""
    found = fits(box, logs)
    if not found:
        return ("barred",)
    places = [apart(logs, dealing, one, other) for dealing in found]
    if places[0] is None:
        return ("unlinked",)
    others = [dealing for dealing, place in zip(found, places) if place != places[0]]
    return ("unlike", found[0], others[0]) if others else ("apart", places[0])


def charted(logs, dealing, name):
    land = next(land for group, land in lands(logs, dealing).items() if name in group)
    return (tuple(sorted((place, what) for word, place, what in land if word == "sign")),
            tuple(sorted(place for word, place, what in land if word == "bare")),
            tuple(sorted((*place, what) for word, place, what in land if word == "open")),
            tuple(sorted((*place, what) for word, place, what in land if word == "shut")))


def drawn(logs, dealing, name):
    """The drawing, set sign by sign on a sheet with two columns and rows for each place."""
    sheet = {(0, 0): "?"}
    for kind, things in zip(("sign", "bare", "open", "shut"), charted(logs, dealing, name)):
        for thing in things:
            if kind == "sign":
                (east, north), sign = thing
                sheet[2 * east, 2 * north] = sign[0]
            elif kind == "bare":
                sheet[2 * thing[0], 2 * thing[1]] = "."
            else:
                east, north, side = thing
                more = (1, 0) if side == "e" else (0, 1)
                for many in (0, 2):
                    sheet.setdefault((2 * east + many * more[0], 2 * north + many * more[1]), "?")
                mark = "#" if kind == "shut" else {"e": "-", "n": "|"}[side]
                sheet[2 * east + more[0], 2 * north + more[1]] = mark
    columns, rows = [sorted(spot[k] for spot in sheet) for k in (0, 1)]
    lines = []
    for y in range(rows[-1], rows[0] - 1, -1):
        line = ""
        for x in range(columns[0], columns[-1] + 1):
            line += sheet.get((x, y), "?" if x % 2 == 0 and y % 2 == 0 else " ")
        lines.append(line)
    return "\n".join(lines)


def sign_walk(logs, dealing, lot, one, other):
    """The place of one, that of other and for each place and letter the place that the step leads to."""
    land = next(land for land in lands(logs, dealing).values() if any(what == one for word, place, what in land))
    first, last = [next(place for word, place, what in land if what == sign) for sign in (one, other)]
    steps = {}
    for word, (east, north), side in land:
        if word == "open":
            beyond = (east + (side == "e"), north + (side == "n"))
            for here, there in (((east, north), beyond), (beyond, (east, north))):
                truly = WAYS.index((there[0] - here[0], there[1] - here[1]))
                shown = next(k for k in range(4) if turn(lot, k) == truly)
                steps[here, "nesw"[shown]] = there
    return first, last, steps


def leads(walks, letters):
    for here, last, steps in walks:
        for letter in letters:
            here = steps.get((here, letter))
        if here != last:
            return False
    return True


def fewest(walks):
    """The letters that lead in all walks, found from the end: how far each joint place is from it."""
    begin, end = [tuple(walk[k] for walk in walks) for k in (0, 1)]

    def onward(places, letter):
        further = tuple(walk[2].get((place, letter)) for walk, place in zip(walks, places))
        return None if None in further else further
    known = [begin]
    for places in known:
        for letter in "nesw":
            further = onward(places, letter)
            if further is not None and further not in known:
                known.append(further)
    far = {end: 0}
    for _ in known:
        for places in known:
            near = [far[onward(places, letter)] + 1 for letter in "nesw" if onward(places, letter) in far]
            if near:
                far[places] = min(near + [far.get(places, near[0])])
    if begin not in far:
        return None
    letters, here = [], begin
    while here != end:
        letter = next(k for k in "nesw" if onward(here, k) in far and far[onward(here, k)] == far[here] - 1)
        letters.append(letter)
        here = onward(here, letter)
    return tuple(letters)


def blamed(box, logs):
    """All least sets of names without which a dealing fits."""
    enough = []
    for many in range(len(logs) + 1):
        for names in itertools.combinations(sorted(logs), many):
            if fits(box, {name: log for name, log in logs.items() if name not in names}):
                enough.append(names)
    return tuple(names for names in enough if not any(set(few) < set(names) for few in enough))


def question(box, logs):
    found = fits(box, logs)
    if len(found) < 2:
        return None
    counts = [max(sum(dealing[at] == lot for dealing in found) for lot in range(8)) for at in range(len(legs(logs)))]
    at = counts.index(min(counts))
    return (*legs(logs)[at], counts[at])


def depth_of(all_legs, left, plan):
    """The depth of a plan that is right for the dealings that are left; None where it isn't; point 32, word by word."""
    if type(plan) not in (tuple, list) or not left:
        return None
    if len(plan) == 2 and plan[0] == "known":
        if type(plan[1]) not in (tuple, list) or not all(is_int(lot) for lot in plan[1]):
            return None
        return 0 if left == [tuple(plan[1])] else None
    if len(plan) != 4 or plan[0] != "look" or type(plan[1]) is not str or not is_int(plan[2]):
        return None
    if (plan[1], plan[2]) not in all_legs or type(plan[3]) not in (tuple, list):
        return None
    at, depths, lots = all_legs.index((plan[1], plan[2])), [], []
    for pair in plan[3]:
        if type(pair) not in (tuple, list) or len(pair) != 2 or not is_int(pair[0]):
            return None
        lots.append(pair[0])
        depths.append(depth_of(all_legs, [dealing for dealing in left if dealing[at] == pair[0]], pair[1]))
    if lots != sorted({dealing[at] for dealing in left}) or None in depths:
        return None
    return 1 + max(depths)


def least_depth(many_legs, left):
    """The least depth of a right plan, by trying ever deeper ones."""
    def enough(some, depth):
        if len(some) == 1:
            return True
        if depth == 0:
            return False
        for at in range(many_legs):
            parts = [[dealing for dealing in some if dealing[at] == lot] for lot in range(8)]
            if all(enough(part, depth - 1) for part in parts if part and len(part) < len(some)) and some not in parts:
                return True
        return False
    return next(depth for depth in itertools.count() if enough(left, depth))


def random_log(chance, entries, swaps):
    """A log of any entries, most of them behind a face, with so many swaps."""
    log = []
    for _ in range(entries):
        word = chance.choice(("face", "left", "right", "back", "go", "bump", "sign", "bare", "spy"))
        if not any(entry[0] == "face" for entry in log) and word not in ("sign", "bare"):
            word = "face"
        sign = chance.choice(LONE + SMALL)
        many = chance.randint(1, 9)
        more = {"face": (chance.choice("nesw"),), "go": (many,), "sign": (sign,), "spy": (many, sign)}
        log.append((word, *more.get(word, ())))
    for _ in range(swaps):
        log.insert(chance.randint(0, len(log)), ("swap",))
    return tuple(log)


class Land:
    """A small land with signs and shut ways, in which walkers write what they find."""

    def __init__(self, chance, size=4, signs=5):
        self.chance = chance
        self.size = size
        places = [(east, north) for east in range(size) for north in range(size)]
        chance.shuffle(places)
        names = list(LONE[:signs]) + [chance.choice(SMALL) for _ in range(3)]
        self.signs = dict(zip(places, names))
        self.shut = {(place, side) for place in places for side in "ne" if chance.random() < 0.25}

    def within(self, place):
        return all(0 <= part < self.size for part in place)

    def is_open(self, here, look):
        beyond = (here[0] + WAYS[look][0], here[1] + WAYS[look][1])
        return self.within(beyond) and way(here, look) not in self.shut

    def log(self, lots, entries):
        """What a walker with these compasses, one after another, writes on a walk from some place."""
        here = (self.chance.randrange(self.size), self.chance.randrange(self.size))
        lots, log, look = list(lots), [], None
        lot = lots.pop(0)
        swaps = sorted(self.chance.sample(range(entries), len(lots)))
        for at in range(entries):
            if at in swaps:
                lot = lots.pop(0)
                log.append(("swap",))
                continue
            word = self.chance.choice(("face", "left", "right", "back", "go", "go", "go", "look", "spy", "bump"))
            if word == "face" or (look is None and word != "look"):
                look = self.chance.randrange(4)
                shown = next(k for k in range(4) if turn(lot, k) == look)
                log.append(("face", "nesw"[shown]))
            elif word in ("left", "right", "back"):
                look = (look + {"right": 1, "back": 2, "left": 3}[word]) % 4
                log.append((word,))
            elif word == "go" and self.is_open(here, look):
                many = 0
                while many < 3 and self.is_open(here, look):
                    here = (here[0] + WAYS[look][0], here[1] + WAYS[look][1])
                    many += 1
                log.append(("go", many))
            elif word == "spy":
                log.extend(self.spied(here, look))
            elif word == "bump" and not self.is_open(here, look):
                log.append(("bump",))
            elif here in self.signs:
                log.append(("sign", self.signs[here]))
            else:
                log.append(("bare",))
        return tuple(log)

    def spied(self, here, look):
        for many in range(1, 10):
            place = (here[0] + many * WAYS[look][0], here[1] + many * WAYS[look][1])
            if place in self.signs:
                return [("spy", many, self.signs[place])]
        return []


def random_case(chance, liars=0, many_lots=None):
    """A box, logs by names and the true dealing of walkers in a land; so many entries of the logs are altered."""
    land = Land(chance, size=chance.randint(2, 4), signs=chance.randint(1, 5))
    names = chance.sample(["ann", "bob", "cy", "dora", "eve"], chance.randint(0, 4))
    lots = {name: [chance.randrange(many_lots or 8) for _ in range(chance.choice((1, 1, 1, 2)))] for name in names}
    logs = {name: land.log(lots[name], chance.randint(len(lots[name]), 14)) for name in names}
    dealing = tuple(lot for name in sorted(names) for lot in lots[name])
    box = [dealing.count(lot) for lot in range(8)]
    for _ in range(chance.randint(0, 2)):
        box[chance.randrange(many_lots or 8)] += 1
    for _ in range(liars):
        name = chance.choice(names) if names else None
        spots = [at for at, entry in enumerate(logs.get(name, ())) if entry[0] in ("go", "sign", "spy", "bump", "bare")]
        if spots:
            logs[name] = altered(chance, logs[name], chance.choice(spots))
    return tuple(box), logs, dealing


def altered(chance, log, at):
    """The log with another entry of the same kind at the place, or a sign for a bare."""
    word = log[at][0]
    sign = chance.choice(LONE[:3] + SMALL[:2])
    entry = {"go": ("go", chance.randint(1, 4)), "sign": ("sign", sign), "spy": ("spy", chance.randint(1, 3), sign),
             "bump": ("go", 1), "bare": ("sign", sign)}[word]
    return (*log[:at], entry, *log[at + 1:])
