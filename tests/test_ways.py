"""Points 27 to 29: roads, letters that lead, and sure ways."""

import itertools
import random
import unittest

from tests import oracle
from tests.samples import FAR, alike, caught, flat, listed, nested, odd_things
from wayneedle.atlas import Atlas
from wayneedle.errors import NoDealing, NoFit, NoLeg, NoLink, NoSign, NoWalker, TooMany
from wayneedle.fits import fits
from wayneedle.lots import both
from wayneedle.ways import leads, road, sure_way

FACE = ("face", "n")

SWAP = ("swap",)

RIGHT = (6, 0, 0, 0, 0, 0, 0, 0)

OAK, ELM, ASH, HUT = ("sign", "Oak"), ("sign", "Elm"), ("sign", "Ash"), ("sign", "hut")

NO_SIGNS = ("", "oak", "hut", "Oak ", "OAK", "Yew", "Oaks", "n", "~" * 4000)


def walked(steps):
    """Entries that go the letters one by one, by a compass that is right or as it shows."""
    found = []
    for letter in steps:
        found += [("face", letter), ("go", 1)]
    return tuple(found)


class Road(unittest.TestCase):
    def asks(self, log, one, other, wanted, box=RIGHT, dealing=(0,)):
        atlas = Atlas(box, (("ann", log),))
        self.assertTrue(alike(road(atlas, dealing, one, other), wanted), road(atlas, dealing, one, other))
        self.assertTrue(alike(road(other=other, one=one, dealing=list(dealing), atlas=atlas), wanted))

    def test_straight(self):
        log = (OAK, FACE, ("go", 3), ELM)
        self.asks(log, "Oak", "Elm", ("n", "n", "n"))
        self.asks(log, "Elm", "Oak", ("s", "s", "s"))
        for letter, back in (("n", "s"), ("e", "w"), ("s", "n"), ("w", "e")):
            self.asks((OAK, *walked(letter), ELM), "Oak", "Elm", (letter,))
            self.asks((OAK, *walked(letter), ELM), "Elm", "Oak", (back,))

    def test_one_place(self):
        log = (OAK, FACE, ("go", 3), ELM, ("back",), ("go", 1), ("spy", 7, "Ash"))
        for sign in ("Oak", "Elm", "Ash"):
            self.asks(log, sign, sign, ())

    def test_no_open_ways_lead_there(self):
        self.asks((OAK, FACE, ("spy", 1, "Elm")), "Oak", "Elm", None)
        self.asks((OAK, FACE, ("bump",), ("spy", 1, "Elm")), "Oak", "Elm", None)
        self.asks((OAK, FACE, ("go", 3), ("spy", 1, "Elm")), "Oak", "Elm", None)
        self.asks((OAK, FACE, ("go", 3), ("spy", 1, "Elm")), "Elm", "Oak", None)

    def test_letters_are_those_one_truly_looks(self):
        log = (OAK, FACE, ("go", 2), ("right",), ("go", 1), ELM)
        for lot, wanted in enumerate(("nne", "ees", "ssw", "wwn", "nne", "ees", "ssw", "wwn")):
            box = tuple(int(lot == each) for each in range(8))
            self.asks(log, "Oak", "Elm", tuple(wanted), box, (lot,))

    def test_the_fewest_steps(self):
        # A long way about, and the last step across.
        self.asks((OAK, *walked("nnneeesssww"), ELM), "Oak", "Elm", tuple("nnneeesssww"))
        self.asks((OAK, *walked("nnneeesssww"), ELM, *walked("w")), "Oak", "Elm", ("e",))
        self.asks((OAK, *walked("eenwwneenww"), ELM), "Oak", "Elm", tuple("eenwwneenww"))
        self.asks((OAK, *walked("eenwwsnneenww"), ELM), "Oak", "Elm", tuple("nneenww"))

    def test_the_first_of_several(self):
        # All four sides of a square of one step, and Elm across.
        for round_about, wanted in (("nesw", "ne"), ("nwse", "nw"), ("eswn", "es"), ("wsen", "sw")):
            self.asks((OAK, *walked(round_about), *walked(round_about[:2]), ELM), "Oak", "Elm", tuple(wanted))
            self.asks((OAK, *walked(round_about), *walked(round_about[1::-1]), ELM), "Oak", "Elm", tuple(wanted))

    def test_the_first_step_where_they_differ(self):
        # All ways of a field of two steps by one; Oak and Elm at its corners.
        field = walked("eenwwsenes") + walked("ww")
        for to_oak, to_elm, wanted in (("", "een", "nee"), ("een", "", "sww"), ("n", "ee", "ees"), ("ee", "n", "nww")):
            back = {"n": "s", "e": "w"}
            home = [back[letter] for letter in reversed(to_oak)]
            log = (*field, *walked(to_oak), OAK, *walked(home), *walked(to_elm), ELM)
            self.asks(log, "Oak", "Elm", tuple(wanted))

    def test_ways_of_other_walkers_of_the_group(self):
        logs = (("ann", (OAK, FACE, ("go", 1), ASH)), ("bob", (ASH, ("face", "e"), ("go", 1), ELM)), ("cy", walked("nesw")))
        atlas = Atlas(RIGHT, logs)
        self.assertEqual(road(atlas, (0, 0, 0), "Oak", "Elm"), ("n", "e"))
        self.assertEqual(road(atlas, (0, 0, 0), "Elm", "Oak"), ("w", "s"))
        atlas = Atlas((1, 1, 0, 1, 0, 0, 0, 0), logs)
        self.assertEqual(road(atlas, (3, 1, 0), "Oak", "Elm"), ("w", "s"))

    def test_at_random(self):
        chance = random.Random(41)
        lengths = set()
        for _ in range(120):
            land = oracle.Land(chance, 4, 5)
            logs = {name: land.log([0], 36) for name in ("ann", "bob")[:chance.randint(1, 2)]}
            atlas = Atlas(RIGHT, list(logs.items()))
            dealing = (0,) * len(logs)
            signs = sorted(set().union(*[oracle.lone(log) for log in logs.values()]))
            for one, other in itertools.product(signs, signs):
                if oracle.apart(logs, dealing, one, other) is not None:
                    wanted = oracle.fewest([oracle.sign_walk(logs, dealing, 0, one, other)])
                    self.assertTrue(alike(road(atlas, dealing, one, other), wanted), (logs, one, other))
                    lengths.add(wanted if wanted is None else len(wanted))
        self.assertLessEqual({None, 0, 1, 2, 3, 4, 5, 6}, lengths)

    def test_a_dealing_that_is_turned_has_as_many_steps(self):
        chance = random.Random(42)
        for _ in range(30):
            box, logs, dealing = oracle.random_case(chance)
            atlas = Atlas(box, list(logs.items()))
            signs = sorted(set().union(*[oracle.lone(log) for log in logs.values()]))
            for turn in range(4):
                again = tuple(both(turn, lot) for lot in dealing)
                other = Atlas(tuple(again.count(lot) for lot in range(8)), list(logs.items()))
                for one, two in itertools.product(signs, signs):
                    if oracle.apart(logs, dealing, one, two) is not None:
                        steps, others = road(atlas, dealing, one, two), road(other, again, one, two)
                        self.assertEqual(steps is None, others is None)
                        self.assertEqual(len(steps or ()), len(others or ()))


class RoadRefused(unittest.TestCase):
    def setUp(self):
        self.atlas = Atlas((1, 1, 1, 0, 0, 0, 0, 0), (
            ("ann", (OAK, FACE, ("go", 1), ELM)), ("bob", (OAK, ("face", "s"), ("go", 1), ELM)), ("cy", (ASH,))))

    def refuses(self, error, dealing, one, other):
        fields = [vars(caught(error, road, self.atlas, given, one, other)) for given in (dealing, list(dealing))]
        fields.append(vars(caught(error, road, other=other, one=one, dealing=dealing, atlas=self.atlas)))
        self.assertTrue(all(alike(list(each.items()), list(fields[0].items())) for each in fields))
        return fields[0]

    def test_no_dealing(self):
        for dealing, at in (((), 3), ((0, 2), 3), ((0, 2, 1, 1), 3), ((0, 0, 1), 1), ((0, 2, 3), 2), ((0, 2, True), 2),
                            ((0, 2, None), 2), (([], 2, 1), 0)):
            for one, other in (("Oak", "Elm"), ("Oak", "Ash"), ("nix", "Elm")):
                self.assertEqual(self.refuses(NoDealing, dealing, one, other), {"at": at})

    def test_no_fit(self):
        for dealing in ((0, 1, 2), (1, 0, 2), (2, 1, 0)):
            for one, other in (("Oak", "Elm"), ("Oak", "Ash"), ("nix", "Elm"), ("Oak", "Oak")):
                self.assertEqual(self.refuses(NoFit, dealing, one, other), {})

    def test_no_sign(self):
        for text in NO_SIGNS:
            self.assertEqual(self.refuses(NoSign, (0, 2, 1), text, "Oak"), {"sign": text})
            self.assertEqual(self.refuses(NoSign, (0, 2, 1), "Ash", text), {"sign": text})
            self.assertEqual(self.refuses(NoSign, (0, 2, 1), text, "nix"), {"sign": text})
            self.assertEqual(self.refuses(NoSign, (0, 2, 1), "nix", text), {"sign": "nix"})

    def test_no_link(self):
        for one, other in (("Oak", "Ash"), ("Ash", "Elm")):
            self.assertEqual(self.refuses(NoLink, (0, 2, 1), one, other), {})
        self.assertEqual(road(self.atlas, (0, 2, 1), "Ash", "Ash"), ())


class Leads(unittest.TestCase):
    def asks(self, atlas, name, leg, letters, wanted, one="Oak", other="Elm"):
        self.assertIs(leads(atlas, name, leg, one, other, letters), wanted, letters)
        given = listed(letters)
        self.assertIs(leads(letters=given, other=other, one=one, leg=leg, name=name, atlas=atlas), wanted, letters)
        self.assertTrue(alike(given, listed(letters)))

    def test_with_each_dealing_that_fits(self):
        # Whatever the compass of ann, by it one goes from Oak to Elm as ann went.
        atlas = Atlas((1,) * 8, (("ann", (OAK, FACE, ("go", 2), ("face", "e"), ("go", 1), ELM)),))
        self.assertEqual(len(fits(atlas)), 8)
        self.asks(atlas, "ann", 0, ("n", "n", "e"), True)
        self.asks(atlas, "ann", 0, ("w", "s", "s"), True, "Elm", "Oak")
        self.asks(atlas, "ann", 0, ("n", "s", "n", "n", "s", "n", "e", "w", "e"), True)
        self.asks(atlas, "ann", 0, (), True, "Oak", "Oak")
        self.asks(atlas, "ann", 0, ("n", "s"), True, "Oak", "Oak")

    def test_no_open_way(self):
        atlas = Atlas((1,) * 8, (("ann", (OAK, FACE, ("go", 2), ("face", "e"), ("go", 1), ELM, ("face", "s"), ("bump",))),))
        for letters in ((), ("n",), ("n", "n"), ("n", "e", "n"), ("e", "n", "n"), ("n", "n", "w"), ("n", "n", "e", "e"),
                        ("n", "n", "n", "e", "s"), ("s", "n", "n", "n", "e"), ("n", "n", "e", "n")):
            self.asks(atlas, "ann", 0, letters, False)
        self.asks(atlas, "ann", 0, ("e", "w"), False, "Oak", "Oak")
        self.asks(atlas, "ann", 0, ("n", "n", "e"), False, "Elm", "Oak")

    def test_with_some_dealings_only(self):
        # By the compass of bob, of which nothing else is told, each letter is right with one dealing alone.
        atlas = Atlas((1, 1, 0, 0, 0, 0, 0, 0), (("ann", (OAK, FACE, ("go", 1), ELM)), ("bob", ())))
        self.assertEqual(fits(atlas), ((0, 1), (1, 0)))
        for letter in "nesw":
            self.asks(atlas, "bob", 0, (letter,), False)
        self.asks(atlas, "ann", 0, ("n",), True)
        self.asks(atlas, "bob", 0, (), True, "Oak", "Oak")
        # With the lots 0 and 4 n is the same way.
        atlas = Atlas((1, 0, 0, 0, 1, 0, 0, 0), (("ann", (OAK, FACE, ("go", 1), ELM)), ("bob", ())))
        self.assertEqual(fits(atlas), ((0, 4), (4, 0)))
        self.asks(atlas, "bob", 0, ("n",), True)
        self.asks(atlas, "bob", 0, ("s",), False)

    def test_the_compass_of_the_leg(self):
        log = (OAK, FACE, ("go", 1), ELM, SWAP, ("face", "e"), ("go", 1), ASH)
        atlas = Atlas((0, 1, 0, 1, 0, 0, 0, 0), (("ann", log),))
        self.assertEqual(fits(atlas), ((1, 3), (3, 1)))
        self.asks(atlas, "ann", 0, ("n",), True)
        self.asks(atlas, "ann", 1, ("n",), False)
        self.asks(atlas, "ann", 1, ("s",), True)
        self.asks(atlas, "ann", 1, ("e",), True, "Elm", "Ash")
        self.asks(atlas, "ann", 0, ("w",), True, "Elm", "Ash")
        self.asks(atlas, "ann", 0, ("n", "w"), True, "Oak", "Ash")
        self.asks(atlas, "ann", 1, ("s", "e"), True, "Oak", "Ash")

    def test_things_that_are_no_letters(self):
        atlas = Atlas(RIGHT, (("ann", (OAK, FACE, ("go", 1), ELM)),))
        self.asks(atlas, "ann", 0, ("n",), True)
        for thing in odd_things() + ["", "n", "nn", "N", "ne", 0, 1, nested(400), "north"]:
            self.asks(atlas, "ann", 0, thing, flat(listed(thing)) == flat(["n"]))
            self.asks(atlas, "ann", 0, (thing,), thing == "n")
            self.asks(atlas, "ann", 0, ("n", "s", thing), thing == "n")
            self.asks(atlas, "ann", 0, (thing, "n"), False)
            self.asks(atlas, "ann", 0, thing, flat(thing) == flat(()) or flat(thing) == flat([]), "Oak", "Oak")

    def test_many_letters(self):
        atlas = Atlas((1,) * 8, (("ann", (OAK, FACE, ("go", 1), ELM)),))
        self.asks(atlas, "ann", 0, ("n", "s") * 500 + ("n",), True)
        self.asks(atlas, "ann", 0, ("n", "s") * 500, False)

    def test_more_than_six_dealings_are_no_matter(self):
        atlas = Atlas((2,) * 8, (("ann", (OAK, FACE, ("go", 1), ELM)), ("bob", ())))
        self.assertEqual(len(fits(atlas)), 64)
        self.asks(atlas, "ann", 0, ("n",), True)
        self.asks(atlas, "bob", 0, ("n",), False)

    def test_they_still_lead_with_a_log_more(self):
        chance = random.Random(43)
        tried = 0
        for _ in range(200):
            box, logs, dealing = oracle.random_case(chance, many_lots=3)
            if len(logs) < 2:
                continue
            atlas = Atlas(box, list(logs.items()))
            less = atlas.without(chance.choice(sorted(logs)))
            signs = sorted(set().union(*[oracle.lone(log) for log in less.logs]))
            for one, other in itertools.product(signs, signs):
                few = dict(zip(less.names, less.logs))
                if len(fits(less)) <= 6 and oracle.apart(few, fits(less)[0], one, other) is not None:
                    name, leg = chance.choice(less.legs())
                    way = sure_way(less, name, leg, one, other)
                    if way is not None:
                        tried += 1
                        self.assertIs(leads(atlas, name, leg, one, other, way), True)
        self.assertGreater(tried, 50)


class SureWay(unittest.TestCase):
    def asks(self, atlas, name, leg, wanted, one="Oak", other="Elm"):
        told = sure_way(atlas, name, leg, one, other)
        self.assertTrue(alike(told, wanted), told)
        self.assertTrue(alike(sure_way(other=other, one=one, leg=leg, name=name, atlas=atlas), wanted))
        if told is not None:
            self.assertIs(leads(atlas, name, leg, one, other, told), True)

    def test_as_the_walker_went(self):
        atlas = Atlas((1, 1, 1, 1, 1, 1, 0, 0), (("ann", (OAK, FACE, ("go", 2), ("face", "e"), ("go", 1), ELM)),))
        self.assertEqual(len(fits(atlas)), 6)
        self.asks(atlas, "ann", 0, ("n", "n", "e"))
        self.asks(atlas, "ann", 0, ("w", "s", "s"), "Elm", "Oak")
        self.asks(atlas, "ann", 0, (), "Oak", "Oak")

    def test_none_lead(self):
        atlas = Atlas((1, 1, 0, 0, 0, 0, 0, 0), (("ann", (OAK, FACE, ("go", 1), ELM)), ("bob", ())))
        self.asks(atlas, "bob", 0, None)
        self.asks(atlas, "bob", 0, (), "Oak", "Oak")
        atlas = Atlas(RIGHT, (("ann", (OAK, FACE, ("spy", 1, "Elm"))),))
        self.asks(atlas, "ann", 0, None)

    def test_the_fewest_that_lead_with_all(self):
        # With the lots 0 and 4 e and w are exchanged; only the way about, north and south, leads with both.
        log = (OAK, ("face", "n"), ("go", 1), ("right",), ("go", 1), ("right",), ("go", 1), ELM)
        square = log + (("right",), ("go", 1))
        atlas = Atlas((1, 0, 0, 0, 1, 0, 0, 0), (("ann", square),))
        self.assertEqual(fits(atlas), ((0,), (4,)))
        self.asks(atlas, "ann", 0, None)
        straight = (OAK, FACE, ("go", 2), ELM, ("back",), ("go", 1), ("right",), ("go", 1), ("left",), ("go", 1), ("left",), ("go", 1))
        self.asks(Atlas((1, 0, 0, 0, 1, 0, 0, 0), (("ann", straight),)), "ann", 0, ("n", "n"))

    def test_the_letters_that_are_told_compare(self):
        # All four sides of a square: of the two ways across that one is told that the compass shows first.
        log = (OAK, *walked("nesw"), *walked("ne"), ELM)
        for lot in range(8):
            box = tuple(int(lot == each) for each in range(8))
            self.asks(Atlas(box, (("ann", log),)), "ann", 0, ("n", "e"))
            self.asks(Atlas(box, (("ann", log),)), "ann", 0, ("s", "w"), "Elm", "Oak")
        log = (OAK, *walked("eswn"), *walked("es"), ELM)
        for lot in range(8):
            box = tuple(int(lot == each) for each in range(8))
            self.asks(Atlas(box, (("ann", log),)), "ann", 0, ("e", "s"))
            self.asks(Atlas(box, (("ann", log),)), "ann", 0, ("n", "w"), "Elm", "Oak")

    def test_by_the_compass_of_another_group(self):
        logs = (("ann", (OAK, FACE, ("go", 1), ELM)), ("bob", (ASH,)), ("cy", (HUT,)))
        atlas = Atlas((1, 0, 0, 0, 1, 0, 0, 0), logs[:2])
        self.asks(atlas, "bob", 0, ("n",))
        self.asks(atlas, "bob", 0, (), "Ash", "Ash")
        atlas = Atlas((1, 1, 0, 0, 1, 0, 0, 0), logs)
        self.assertEqual(len(fits(atlas)), 6)
        self.asks(atlas, "bob", 0, None)
        self.asks(atlas, "ann", 0, ("n",))

    def test_too_many(self):
        log = (OAK, FACE, ("go", 1), ELM)
        for box, many in (((1,) * 7 + (0,), 7), ((1,) * 8, 8), ((3,) * 8, 8)):
            atlas = Atlas(box, (("ann", log),))
            self.assertTrue(alike(caught(TooMany, sure_way, atlas, "ann", 0, "Oak", "Elm").many, many))
            self.assertTrue(alike(caught(TooMany, sure_way, atlas, "ann", 0, "Oak", "Oak").many, many))
        atlas = Atlas((2,) * 8, (("ann", log), ("bob", ())))
        self.assertEqual(vars(caught(TooMany, sure_way, other="Elm", one="Oak", leg=0, name="bob", atlas=atlas)), {"many": 64})
        # None fits, or fewer than the box lets by.
        atlas = Atlas((2, 2, 2, 0, 0, 0, 0, 0), (("ann", log), ("bob", log), ("cy", (OAK, FACE, ("spy", 1, "Elm")))))
        caught(NoFit, sure_way, atlas, "ann", 0, "Oak", "Elm")
        atlas = Atlas((2, 2, 2, 0, 0, 0, 0, 0), (("ann", log), ("bob", log)))
        self.asks(atlas, "ann", 0, ("n",))
        self.asks(atlas, "bob", 0, ("n",))

    def test_at_random(self):
        chance = random.Random(44)
        found = {}
        for _ in range(160):
            land = oracle.Land(chance, 3, 5)
            lots = [chance.randrange(8) for _ in range(3)]
            logs = {name: land.log(lots[at:at + 1], 24) for at, name in enumerate(("ann", "bob")[:chance.randint(1, 2)])}
            dealt = lots[:len(logs)] + lots[2:]
            atlas = Atlas(tuple(dealt.count(lot) for lot in range(8)), list(logs.items()))
            fitting = oracle.fits(atlas.box, logs)
            signs = sorted(set().union(*[oracle.lone(log) for log in logs.values()]))
            for one, other in itertools.product(signs, signs):
                if oracle.apart(logs, fitting[0], one, other) is not None:
                    for at, (name, leg) in enumerate(atlas.legs()):
                        walks = [oracle.sign_walk(logs, dealing, dealing[at], one, other) for dealing in fitting]
                        wanted = oracle.fewest(walks)
                        self.asks(atlas, name, leg, wanted, one, other)
                        key = (len(fitting) > 1, None if wanted is None else min(len(wanted), 3))
                        found[key] = found.get(key, 0) + 1
                        self.tries(chance, atlas, (name, leg, one, other), walks)
        self.assertEqual(len(found), 10)

    def tries(self, chance, atlas, given, walks):
        """Letters that lead in the first walk, and some others, lead just where the oracle says so."""
        way = oracle.fewest(walks[:1])
        for letters in (way or (), tuple(chance.choice("nesw") for _ in range(chance.randint(0, 3)))):
            self.assertIs(leads(atlas, *given, letters), oracle.leads(walks, letters))


class Refused(unittest.TestCase):
    def setUp(self):
        self.fit = Atlas((1, 1, 1, 0, 0, 0, 0, 0), (
            ("ann", (OAK, FACE, ("go", 1), ELM)), ("bob", (OAK, ("face", "s"), ("go", 1), ELM)), ("cy", (ASH,))))
        self.barred = Atlas((3, 0, 0, 0, 0, 0, 0, 0), zip(self.fit.names, self.fit.logs))

    def refuses(self, error, atlas, name, leg, one, other):
        fields = [vars(caught(error, sure_way, atlas, name, leg, one, other))]
        fields.append(vars(caught(error, sure_way, other=other, one=one, leg=leg, name=name, atlas=atlas)))
        for letters in (("n",), ["n"], (), None, "n", 5):
            fields.append(vars(caught(error, leads, atlas, name, leg, one, other, letters)))
        fields.append(vars(caught(error, leads, letters=(), other=other, one=one, leg=leg, name=name, atlas=atlas)))
        self.assertTrue(all(alike(list(each.items()), list(fields[0].items())) for each in fields))
        return fields[0]

    def test_no_walker(self):
        for atlas in (self.fit, self.barred):
            for name in ("zoe", "", "Ann", "ann ", "Oak", "~" * 4000):
                for leg, one, other in ((0, "Oak", "Elm"), (5, "nix", "nix"), (-1, "Oak", "Ash")):
                    self.assertEqual(self.refuses(NoWalker, atlas, name, leg, one, other), {"name": name})
        self.assertEqual(self.refuses(NoWalker, Atlas(RIGHT), "ann", 0, "Oak", "Elm"), {"name": "ann"})

    def test_no_leg(self):
        for atlas in (self.fit, self.barred):
            for leg in (-1, 1, 2, -2, 100, FAR, -FAR):
                for one, other in (("Oak", "Elm"), ("nix", "Elm"), ("Oak", "Ash")):
                    self.assertEqual(self.refuses(NoLeg, atlas, "bob", leg, one, other), {"name": "bob", "leg": leg})
        atlas = Atlas(RIGHT, (("ann", (OAK, SWAP, SWAP)),))
        self.assertEqual(self.refuses(NoLeg, atlas, "ann", 3, "Oak", "Elm"), {"name": "ann", "leg": 3})
        self.assertEqual(self.refuses(NoLeg, atlas, "ann", -1, "Oak", "Elm"), {"name": "ann", "leg": -1})
        self.assertIs(leads(atlas, "ann", 2, "Oak", "Oak", ()), True)

    def test_no_sign(self):
        for atlas in (self.fit, self.barred):
            for text in NO_SIGNS:
                self.assertEqual(self.refuses(NoSign, atlas, "ann", 0, text, "Oak"), {"sign": text})
                self.assertEqual(self.refuses(NoSign, atlas, "cy", 0, "Ash", text), {"sign": text})
                self.assertEqual(self.refuses(NoSign, atlas, "ann", 0, text, "nix"), {"sign": text})

    def test_no_link(self):
        for atlas in (self.fit, self.barred):
            for one, other in (("Oak", "Ash"), ("Ash", "Elm")):
                self.assertEqual(self.refuses(NoLink, atlas, "ann", 0, one, other), {})

    def test_no_fit(self):
        for one, other in (("Oak", "Elm"), ("Elm", "Oak"), ("Oak", "Oak"), ("Ash", "Ash")):
            for name in ("ann", "bob", "cy"):
                self.assertEqual(self.refuses(NoFit, self.barred, name, 0, one, other), {})

    def test_too_many_comes_last(self):
        atlas = Atlas((3, 3, 3, 0, 0, 0, 0, 0), (("ann", (OAK, FACE, ("go", 1), ELM)), ("bob", (ASH,))))
        self.assertEqual(len(fits(atlas)), 9)
        self.assertEqual(caught(NoWalker, sure_way, atlas, "zoe", 0, "Oak", "Elm").name, "zoe")
        self.assertEqual(caught(NoLeg, sure_way, atlas, "ann", 1, "Oak", "Elm").leg, 1)
        self.assertEqual(caught(NoSign, sure_way, atlas, "ann", 0, "Oak", "nix").sign, "nix")
        caught(NoLink, sure_way, atlas, "ann", 0, "Oak", "Ash")
        self.assertEqual(caught(TooMany, sure_way, atlas, "ann", 0, "Oak", "Elm").many, 9)


if __name__ == "__main__":
    unittest.main()
