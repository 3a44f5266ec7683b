"""How the facts of several walkers hang together by lone signs, and the threads between them."""

from wayneedle.logs import first_legs
from wayneedle.tracks import facts


def is_lone_fact(fact):
    """Whether the fact tells a lone sign."""
    # Of all that a fact may tell last only a lone sign begins with a great letter.
    return fact[3][:1].isupper()


def added(one, other):
    """The place that lies from one as the other does from (0, 0)."""
    return (one[0] + other[0], one[1] + other[1])


def less(one, other):
    """How far the place one lies from the other."""
    return (one[0] - other[0], one[1] - other[1])


def marks(fact, start):
    """Pairs of a thing of the land and what the fact, moved by the start, tells of it; no fact may tell otherwise."""
    word, what = fact[1], fact[3]
    place = added(start, fact[2])
    if word == "open" or word == "shut":
        return [((place, what), word)]
    if is_lone_fact(fact):
        return [(what, place), (place, what)]
    return [(place, what)]


class Weave:
    """Facts of walkers, by names, and where the walkers start so that linked ones agree on the signs that link them."""

    def __init__(self, rows):
        self.rows = rows
        self.starts = {}
        # By which fact of which walker, and by which of its own, each walker was reached.
        self.above = {}
        # Walkers that no thread leads between have lands of their own, which can't clash.
        self.lands = []
        self.tellers = self.all_tellers()
        for name in rows:
            if name not in self.starts:
                self.starts[name] = (0, 0)
                self.lands.append(self.reach(name))

    def all_tellers(self):
        """For each lone sign the walkers that tell it, each with the number of its first fact that does."""
        found = {}
        for name in self.rows:
            for number, fact in enumerate(self.rows[name]):
                if is_lone_fact(fact):
                    found.setdefault(fact[3], {}).setdefault(name, number)
        return found

    def reach(self, first):
        """Start all walkers that are linked to the first one; the names of it and them."""
        names = [first]
        done = 0
        while done < len(names):
            name = names[done]
            for number, fact in enumerate(self.rows[name]):
                if is_lone_fact(fact):
                    names.extend(self.reach_by(name, number))
            done += 1
        return names

    def reach_by(self, name, number):
        """Start those walkers that tell the sign of this fact and have no start yet; their names."""
        tellers = self.tellers[self.rows[name][number][3]]
        reached = [other for other in tellers if other not in self.starts]
        place = self.place_of(name, number)
        for other in reached:
            self.starts[other] = less(place, self.rows[other][tellers[other]][2])
            self.above[other] = (name, number, tellers[other])
        return reached

    def place_of(self, name, number):
        """Where in the land of the walker the thing lies that its fact of this number tells of."""
        return added(self.starts[name], self.rows[name][number][2])

    def clash_among(self, names):
        """Two facts of these walkers, each a name and a number, that tell otherwise of one thing; else None."""
        first = {}
        for name in names:
            for number, fact in enumerate(self.rows[name]):
                for thing, what in marks(fact, self.starts[name]):
                    if thing not in first:
                        first[thing] = (what, name, number)
                    elif first[thing][0] != what:
                        return first[thing][1:], (name, number)
        return None

    def line_up(self, name):
        """The walker, the one that it was reached from, and so on up to the one that was the first."""
        line = [name]
        while line[-1] in self.above:
            line.append(self.above[line[-1]][0])
        return line

    def climb(self, name, number, top):
        """The stretches from a fact up to the walker top, and the number of the fact of top that they lead to."""
        stretches = []
        while name != top:
            beyond, far, near = self.above[name]
            stretches.append((name, number, near))
            name, number = beyond, far
        return stretches, number

    def thread(self, one, other):
        """The thread between two facts, each a name and a number, of linked walkers."""
        others_line = self.line_up(other[0])
        top = [name for name in self.line_up(one[0]) if name in others_line][0]
        up, begin = self.climb(one[0], one[1], top)
        down, end = self.climb(other[0], other[1], top)
        back = [(name, near, number) for name, number, near in reversed(down)]
        return (*up, (top, begin, end), *back)

    def bad_thread(self):
        """A thread that is bad; None where there is none."""
        for names in self.lands:
            ends = self.clash_among(names)
            if ends is not None:
                return self.thread(ends[0], ends[1])
        return None

    def land_with(self, name):
        """The names of all walkers in the land of this one."""
        return [names for names in self.lands if name in names][0]

    def ends(self, one, other):
        """Two facts, each a name and a number, that tell the two lone signs in one land; else None."""
        if one not in self.tellers or other not in self.tellers:
            return None
        first, last = [list(self.tellers[sign].items())[0] for sign in (one, other)]
        if last[0] not in self.land_with(first[0]):
            return None
        return first, last

    def between(self, one, other):
        """How far the lone sign other lies from the one; None where they are not told in one land."""
        ends = self.ends(one, other)
        if ends is None:
            return None
        first, last = ends
        return less(self.place_of(last[0], last[1]), self.place_of(first[0], first[1]))


def first_lots(dealt, name):
    """The lots of the walker's legs from 0 on, up to the first that is not dealt."""
    lots = []
    while (name, len(lots)) in dealt:
        lots.append(dealt[(name, len(lots))])
    return tuple(lots)


class Teller:
    """Tells which facts of an atlas's walkers, and which threads, are settled by the legs that are dealt."""

    def __init__(self, atlas):
        self.box = atlas.box
        self.order = atlas.legs()
        self.sheets = [(name, atlas.log(name)) for name in atlas.names]
        # Who deals one leg after another mostly asks of the same lots of the other walkers again.
        self.last = {}

    def facts_with(self, name, log, lots):
        """The facts of the walker's first legs, as many as there are lots."""
        if name not in self.last or self.last[name][0] != lots:
            self.last[name] = (lots, facts(first_legs(log, len(lots)), lots))
        return self.last[name][1]

    def settled_facts(self, dealt):
        """The facts of each walker that are settled where each (name, leg) is dealt its lot; by names."""
        rows = {}
        for name, log in self.sheets:
            lots = first_lots(dealt, name)
            if lots:
                rows[name] = self.facts_with(name, log, lots)
        return rows

    def woven(self, lots):
        """The weave of all facts that are settled where the first legs are dealt these lots."""
        return Weave(self.settled_facts(dict(zip(self.order, lots))))
