"""Points 21 to 24: the lots that are left, how far signs are apart, what is sure, and papers that show it."""

import random
import unittest

from tests import oracle
from tests.samples import FAR, alike, caught, flat, listed, nested, odd_things, spoilt
from wayneedle.atlas import Atlas
from wayneedle.bars import bars
from wayneedle.errors import NoDealing, NoFit, NoSign
from wayneedle.fits import fits
from wayneedle.lots import both, turned
from wayneedle.sure import apart, lots_left, shows, surely

FACE = ("face", "n")

SWAP = ("swap",)

RIGHT = (6, 0, 0, 0, 0, 0, 0, 0)

OAK, ELM, ASH, HUT = ("sign", "Oak"), ("sign", "Elm"), ("sign", "Ash"), ("sign", "hut")

# From Oak to Elm, one step by the letter; the facts are 0 Oak, 1 open, 2 Elm.
NORTH = (OAK, FACE, ("go", 1), ELM)

SOUTH = (OAK, ("face", "s"), ("go", 1), ELM)

# Texts that are no lone signs, or that no log here tells.
NO_SIGNS = ("", " ", "oak", "hut", "Oak ", " Oak", "OAK", "oAk", "Fir", "Oaks", "Abcdefghi", "O1", "n", "bare", "sign", "~" * 4000)


def odd():
    """Things of any kind, made anew at each call."""
    return odd_things() + [
        0, 1, 7, 8, "", "ann", "thread", "case", "so", "Fir", "~" * 4000, (0,), [0], [[]], (0, 0), (0, 1, 2), ("0", "1"),
        (("ann", 0, 0),), ("thread",), ("so",), ("so", ()), ("so", None), ("case", "ann", 0), nested(400),
        ("so", (("ann", 0, 2),)), ("thread", (("ann", 0, 2),)), ("so", ("ann", 0, 2)), ("so", (("ann", 0, 2),), ()),
    ]


def barred_atlas():
    """One in which no dealing fits, though the logs are linked."""
    return Atlas((2, 1, 0, 0, 0, 0, 0, 0), (("ann", NORTH), ("bob", SOUTH)))


class LotsLeft(unittest.TestCase):
    def asks(self, atlas, wanted):
        self.assertTrue(alike(lots_left(atlas), wanted), lots_left(atlas))
        self.assertTrue(alike(lots_left(atlas=atlas), wanted))

    def test_one_dealing_fits(self):
        self.asks(Atlas(RIGHT, (("ann", NORTH), ("bob", (SWAP,)))), ((0,), (0,), (0,)))
        self.asks(Atlas((0, 0, 0, 0, 0, 1, 0, 0), (("ann", NORTH),)), ((5,),))

    def test_several_fit(self):
        atlas = Atlas((1, 1, 1, 0, 0, 0, 0, 0), (("ann", NORTH), ("bob", SOUTH)))
        self.asks(atlas, ((0, 2), (0, 2)))
        atlas = Atlas((1, 1, 1, 0, 0, 0, 1, 0), (("ann", NORTH), ("bob", SOUTH), ("cy", ())))
        self.assertEqual(fits(atlas), (
            (0, 2, 1), (0, 2, 6), (0, 6, 1), (0, 6, 2), (2, 0, 1), (2, 0, 6), (6, 0, 1), (6, 0, 2)))
        self.asks(atlas, ((0, 2, 6), (0, 2, 6), (1, 2, 6)))

    def test_all_fit(self):
        self.asks(Atlas((1,) * 8, (("ann", NORTH),)), ((0, 1, 2, 3, 4, 5, 6, 7),))
        self.asks(Atlas((1, 0, 1, 0, 0, 0, 0, 1), (("ann", (SWAP,)), ("bob", NORTH))), ((0, 2, 7),) * 3)

    def test_none_fits(self):
        self.asks(barred_atlas(), ((), ()))
        self.asks(Atlas((0,) * 8, (("ann", (SWAP, SWAP)), ("bob", ()))), ((),) * 4)
        self.asks(Atlas((1,) * 8, (("ann", (OAK, ELM)),)), ((),))

    def test_without_walkers(self):
        self.asks(Atlas(RIGHT), ())
        self.asks(Atlas((0,) * 8), ())

    def test_at_random(self):
        chance = random.Random(21)
        for _ in range(120):
            box, logs, _ = oracle.random_case(chance, liars=chance.randrange(3), many_lots=3)
            found = oracle.fits(box, logs)
            wanted = tuple(tuple(sorted({dealing[at] for dealing in found})) for at in range(len(oracle.legs(logs))))
            self.asks(Atlas(list(box), listed(list(logs.items()))), wanted)


class Apart(unittest.TestCase):
    def setUp(self):
        # ann and bob share Ash; cy tells two other lone signs, dora only one that is not lone.
        ann = (OAK, FACE, ("go", 2), ("right",), ("go", 3), ELM, ("spy", 4, "Ash"), ("spy", 1, "hut"))
        bob = (ASH, ("face", "s"), ("spy", 9, "Yew"))
        cy = (("sign", "Birch"), ("face", "w"), ("go", 1), ("sign", "Larch"))
        self.atlas = Atlas((1, 1, 0, 0, 2, 0, 0, 0), (("ann", ann), ("bob", bob), ("cy", cy), ("dora", (HUT, FACE))))
        self.dealing = (0, 1, 4, 4)

    def asks(self, one, other, wanted, dealing=None):
        dealing = self.dealing if dealing is None else dealing
        self.assertTrue(alike(apart(self.atlas, dealing, one, other), wanted), (one, other))
        self.assertTrue(alike(apart(other=other, one=one, dealing=list(dealing), atlas=self.atlas), wanted), (one, other))

    def test_two_linked_signs(self):
        self.asks("Oak", "Elm", (3, 2))
        self.asks("Elm", "Oak", (-3, -2))
        self.asks("Elm", "Ash", (4, 0))
        self.asks("Ash", "Oak", (-7, -2))

    def test_signs_of_two_walkers(self):
        # With the lot 1 the compass of bob shows s where it looks west.
        self.asks("Ash", "Yew", (-9, 0))
        self.asks("Oak", "Yew", (-2, 2))
        self.asks("Yew", "Oak", (2, -2))

    def test_another_dealing(self):
        self.asks("Oak", "Elm", (2, -3), (1, 0, 4, 4))
        self.asks("Oak", "Yew", (2, -7 - 9), (1, 0, 4, 4))
        self.asks("Birch", "Larch", (1, 0), (0, 1, 4, 4))
        self.asks("Birch", "Larch", (-1, 0), (4, 1, 0, 4))

    def test_the_same_sign(self):
        for sign in ("Oak", "Elm", "Ash", "Yew", "Birch", "Larch"):
            self.asks(sign, sign, (0, 0))

    def test_not_linked(self):
        for one, other in (("Oak", "Birch"), ("Larch", "Yew"), ("Birch", "Ash")):
            self.asks(one, other, None)
            self.asks(other, one, None)

    def test_no_dealing_goes_ahead_of_all_else(self):
        for dealing, at in (((), 4), ((0,) * 5, 4), ((0, 1, 4), 4), ((0, 1, 4, 5), 3), ((0, 0, 4, 4), 1), ((True, 1, 4, 4), 0),
                            ((0, 1, None, 4), 2), ((0, 1, 4, []), 3), ((0, 1, 4, -1), 3), ((0, 1, 8, 9), 2)):
            for one, other in (("Oak", "Elm"), ("hut", "nix"), ("Oak", "Birch")):
                self.assertTrue(alike(caught(NoDealing, apart, self.atlas, dealing, one, other).at, at))
                self.assertTrue(alike(caught(NoDealing, apart, self.atlas, list(dealing), one, other).at, at))

    def test_no_fit_goes_ahead_of_no_sign(self):
        self.atlas = barred_atlas()
        for dealing in ((0, 0), (0, 1), (1, 0)):
            for one, other in (("Oak", "Elm"), ("Oak", "Oak"), ("hut", "Elm"), ("Oak", "nix")):
                for given in (dealing, list(dealing)):
                    self.assertEqual(vars(caught(NoFit, apart, self.atlas, given, one, other)), {})
        self.assertEqual(caught(NoDealing, apart, self.atlas, (1, 1), "hut", "Elm").at, 1)
        # One that fits and one that doesn't, of one atlas.
        self.atlas = Atlas((1, 1, 1, 0, 0, 0, 0, 0), (("ann", NORTH), ("bob", SOUTH)))
        self.asks("Oak", "Elm", (0, 1), (0, 2))
        self.asks("Oak", "Elm", (0, -1), (2, 0))
        caught(NoFit, apart, self.atlas, (0, 1), "Oak", "Elm")

    def test_no_sign(self):
        for text in NO_SIGNS:
            self.assertTrue(alike(caught(NoSign, apart, self.atlas, self.dealing, text, "Oak").sign, text))
            self.assertTrue(alike(caught(NoSign, apart, self.atlas, self.dealing, "Oak", text).sign, text))
            self.assertEqual(caught(NoSign, apart, self.atlas, self.dealing, text, "nix").sign, text)
            self.assertEqual(caught(NoSign, apart, self.atlas, self.dealing, "nix", text).sign, "nix")
            self.assertEqual(caught(NoSign, apart, self.atlas, self.dealing, text, text).sign, text)
        for atlas, dealing in ((Atlas(RIGHT), ()), (Atlas(RIGHT, (("ann", ()),)), (0,))):
            self.assertEqual(caught(NoSign, apart, atlas, dealing, "Oak", "Elm").sign, "Oak")

    def test_a_list_that_is_altered_later(self):
        given = list(self.dealing)
        told = apart(self.atlas, given, "Oak", "Elm")
        given[0] = 1
        self.assertEqual(told, (3, 2))

    def test_at_random(self):
        chance = random.Random(22)
        found = {True: 0, False: 0}
        for _ in range(120):
            box, logs, dealing = oracle.random_case(chance)
            self.atlas = Atlas(box, list(logs.items()))
            signs = sorted(set().union(*[oracle.lone(log) for log in logs.values()]))
            for one in signs:
                for other in signs:
                    wanted = oracle.apart(logs, dealing, one, other)
                    found[wanted is None] += 1
                    self.asks(one, other, wanted, dealing)
        self.assertGreater(min(found.values()), 20)

    def test_a_dealing_that_is_turned(self):
        chance = random.Random(23)
        for _ in range(40):
            box, logs, dealing = oracle.random_case(chance)
            signs = sorted(set().union(*[oracle.lone(log) for log in logs.values()]))
            for turn in range(4):
                again = tuple(both(turn, lot) for lot in dealing)
                atlas = Atlas(tuple(again.count(lot) for lot in range(8)), list(logs.items()))
                for one in signs:
                    place = oracle.apart(logs, dealing, one, signs[0])
                    wanted = None if place is None else turned(turn, place)
                    self.assertEqual(apart(atlas, again, one, signs[0]), wanted)


class Surely(unittest.TestCase):
    def asks(self, atlas, one, other):
        """What surely tells, with its paper tried."""
        found = surely(atlas, one, other)
        self.assertTrue(alike(found, surely(other=other, one=one, atlas=atlas)))
        self.assertNotIn(list, [kind for kind, _ in flat(found)])
        logs = dict(zip(atlas.names, atlas.logs))
        if found[0] == "barred":
            self.assertEqual(len(found), 2)
            self.assertIs(bars(atlas, found[1]), True)
            self.assertIs(oracle.is_right(atlas.box, logs, found[1]), True)
            return found[:1]
        if found[0] == "apart":
            self.assertEqual(len(found), 3)
            self.assertIs(shows(atlas, one, other, found[1], found[2]), True)
            self.assertIs(oracle.shows(atlas.box, logs, one, other, found[1], found[2]), True)
            return found[:2]
        return found

    def test_barred(self):
        self.assertEqual(self.asks(barred_atlas(), "Oak", "Elm"), ("barred",))
        self.assertEqual(self.asks(barred_atlas(), "Elm", "Elm"), ("barred",))

    def test_barred_goes_ahead_of_unlinked(self):
        atlas = barred_atlas().with_log("cy", (ASH,))
        self.assertEqual(self.asks(atlas, "Oak", "Ash"), ("barred",))
        atlas = Atlas((0,) * 8, (("ann", (OAK,)), ("bob", (ELM,))))
        self.assertEqual(self.asks(atlas, "Elm", "Oak"), ("barred",))

    def test_unlinked(self):
        atlas = Atlas((1, 1, 1, 0, 0, 0, 0, 0), (("ann", (OAK,)), ("bob", (ELM, FACE, ("go", 1), ASH))))
        for one, other in (("Oak", "Elm"), ("Elm", "Oak"), ("Ash", "Oak")):
            self.assertTrue(alike(surely(atlas, one, other), ("unlinked",)))

    def test_apart_in_all(self):
        self.assertEqual(self.asks(Atlas(RIGHT, (("ann", NORTH),)), "Oak", "Elm"), ("apart", (0, 1)))
        self.assertEqual(self.asks(Atlas(RIGHT, (("ann", NORTH),)), "Elm", "Oak"), ("apart", (0, -1)))
        # With 0 and with 4 alike the letter n is right.
        atlas = Atlas((2, 0, 0, 0, 2, 0, 0, 0), (("ann", NORTH), ("bob", ())))
        self.assertEqual(self.asks(atlas, "Oak", "Elm"), ("apart", (0, 1)))

    def test_the_same_sign_is_at_one_place(self):
        atlas = Atlas((1,) * 8, (("ann", NORTH), ("bob", (ASH,))))
        for sign in ("Oak", "Elm", "Ash"):
            self.assertEqual(self.asks(atlas, sign, sign), ("apart", (0, 0)))

    def test_apart_where_some_lots_are_barred(self):
        # ann goes astray with the lot 1 or 2, as bob stands by; with both right nothing else is left.
        ann = (OAK, FACE, ("go", 1), ELM)
        bob = (OAK, FACE, ("go", 1), ELM, ("back",), ("go", 1), SWAP, FACE, ("go", 1), ELM)
        atlas = Atlas((3, 1, 1, 0, 0, 0, 0, 0), (("ann", ann), ("bob", bob)))
        self.assertEqual(fits(atlas), ((0, 0, 0),))
        self.assertEqual(self.asks(atlas, "Oak", "Elm"), ("apart", (0, 1)))

    def test_otherwise_apart_with_lots_that_can_not_be(self):
        # ann alone would have them otherwise apart with the lots 0 and 4, but these bob needs to come back to Oak.
        bob = (OAK, FACE, ("go", 2), SWAP, ("face", "s"), ("go", 2), OAK)
        atlas = Atlas((1, 1, 0, 0, 1, 0, 0, 0), (("ann", NORTH), ("bob", bob)))
        self.assertEqual(self.asks(atlas, "Oak", "Elm"), ("apart", (1, 0)))
        self.assertEqual(self.asks(atlas, "Elm", "Oak"), ("apart", (-1, 0)))

    def test_apart_over_several_walkers(self):
        # The one is told by ann's log alone, the other by bob's or cy's.
        ann, bob = (OAK, FACE, ("go", 1), ASH), (ASH, FACE, ("go", 1), ELM)
        for names in (("ann", "bob"), ("bob", "ann")):
            for box in (RIGHT, (1, 0, 0, 0, 1, 0, 0, 0)):
                atlas = Atlas(box, zip(names, (ann, bob)))
                self.assertEqual(self.asks(atlas, "Oak", "Elm"), ("apart", (0, 2)))
                self.assertEqual(self.asks(atlas, "Elm", "Oak"), ("apart", (0, -2)))
                self.assertEqual(self.asks(atlas, "Elm", "Ash"), ("apart", (0, -1)))

    def test_apart_by_a_walker_between(self):
        # Both are told by the first two walkers, but only the third one links them.
        logs = ((OAK,), (ELM,), (OAK, FACE, ("spy", 5, "Elm")))
        for names in (("ann", "bob", "cy"), ("bob", "cy", "ann"), ("cy", "ann", "bob")):
            atlas = Atlas((2, 0, 0, 0, 2, 0, 0, 0), zip(names, logs))
            self.assertEqual(self.asks(atlas, "Oak", "Elm"), ("apart", (0, 5)))
            self.assertEqual(self.asks(atlas, "Elm", "Oak"), ("apart", (0, -5)))

    def test_apart_over_later_legs(self):
        ann = (OAK, SWAP, FACE, ("go", 1), SWAP, ELM)
        atlas = Atlas((2, 0, 0, 0, 1, 0, 0, 0), (("ann", ann),))
        self.assertEqual(self.asks(atlas, "Oak", "Elm"), ("apart", (0, 1)))
        self.assertEqual(self.asks(atlas, "Elm", "Oak"), ("apart", (0, -1)))

    def test_unlike(self):
        atlas = Atlas((1, 1, 1, 0, 0, 0, 0, 0), (("ann", NORTH),))
        self.assertTrue(alike(surely(atlas, "Oak", "Elm"), ("unlike", (0,), (1,))))
        atlas = Atlas((1, 1, 0, 1, 1, 0, 0, 0), (("ann", ()), ("bob", NORTH)))
        # With (0, 1), the least, they are so apart as with (3, 1) or (4, 1), but not as with (0, 3).
        self.assertTrue(alike(surely(atlas, "Oak", "Elm"), ("unlike", (0, 1), (0, 3))))
        self.assertTrue(alike(surely(atlas, "Elm", "Oak"), ("unlike", (0, 1), (0, 3))))
        atlas = Atlas((1, 0, 0, 0, 1, 1, 0, 0), (("ann", NORTH),))
        # With 0 and 4 they are alike, so neither of these is told with the other.
        self.assertTrue(alike(surely(atlas, "Oak", "Elm"), ("unlike", (0,), (5,))))
        atlas = Atlas((1, 1, 1, 0, 0, 0, 0, 0), (("ann", NORTH), ("bob", SOUTH)))
        self.assertTrue(alike(surely(atlas, "Oak", "Elm"), ("unlike", (0, 2), (2, 0))))

    def test_no_sign(self):
        for atlas in (Atlas(RIGHT, (("ann", NORTH),)), barred_atlas(), barred_atlas().with_log("cy", (ASH,))):
            for text in NO_SIGNS:
                self.assertTrue(alike(caught(NoSign, surely, atlas, text, "Oak").sign, text))
                self.assertTrue(alike(caught(NoSign, surely, atlas, "Oak", text).sign, text))
                self.assertEqual(caught(NoSign, surely, atlas, text, "nix").sign, text)
                self.assertEqual(caught(NoSign, surely, atlas, "nix", text).sign, "nix")
        for atlas in (Atlas(RIGHT), Atlas((0,) * 8), Atlas(RIGHT, (("ann", ()), ("bob", (HUT,))))):
            self.assertEqual(caught(NoSign, surely, atlas, "Oak", "Elm").sign, "Oak")

    def test_at_random(self):
        chance = random.Random(24)
        found = {"barred": 0, "unlinked": 0, "apart": 0, "unlike": 0}
        for _ in range(250):
            box, logs, dealing = oracle.random_case(chance, chance.choice((0, 0, 1, 2)), chance.choice((2, 3, 8)))
            if len(dealing) > 4 and max(box[3:]) > 0:
                continue
            atlas = Atlas(box, list(logs.items()))
            before = flat((atlas.box, atlas.names, atlas.logs))
            signs = sorted(set().union(*[oracle.lone(log) for log in logs.values()]))
            for _ in range(2 * len(signs)):
                one, other = chance.choice(signs), chance.choice(signs)
                wanted = oracle.surely(box, logs, one, other)
                found[wanted[0]] += 1
                self.assertTrue(alike(self.asks(atlas, one, other), wanted), (box, logs, one, other))
            self.assertEqual(flat((atlas.box, atlas.names, atlas.logs)), before)
        self.assertGreater(min(found.values()), 20)


class Shows(unittest.TestCase):
    """Papers of two walkers whose compasses may be 0 and 4: n is right with both."""

    def setUp(self):
        self.box = (1, 1, 0, 0, 1, 0, 0, 0)
        # bob comes back only where its first compass and its second one show the same n: 0 and 4.
        self.logs = {"ann": NORTH, "bob": (OAK, FACE, ("go", 2), SWAP, ("face", "s"), ("go", 2), OAK)}
        self.atlas = Atlas(self.box, list(self.logs.items()))

    def test_what_fits(self):
        self.assertEqual(fits(self.atlas), ((1, 0, 4), (1, 4, 0)))

    def asks(self, paper, wanted, place=(1, 0), one="Oak", other="Elm"):
        self.assertIs(shows(self.atlas, one, other, place, paper), wanted, (one, other, place, paper))
        given = listed(paper)
        told = shows(paper=given, place=listed(place), other=listed(other), one=listed(one), atlas=self.atlas)
        self.assertIs(told, wanted, (one, other, place, paper))
        self.assertTrue(alike(given, listed(paper)))
        self.assertIs(oracle.shows(self.box, self.logs, one, other, place, paper), wanted)

    def paper(self, so=("so", (("ann", 0, 2),)), lots=(0, 1, 4), leg=("ann", 0), first=None, thread=("thread", (("bob", 0, 5),))):
        """A right one where all is left as it is."""
        def behind(lot):
            if lot == 1:
                return so
            others = tuple(other for other in (0, 1, 4) if other != lot)
            return ("case", "bob", 0, tuple((other, self.rest(other, lot, thread)) for other in others))
        branches = tuple((lot, behind(lot)) for lot in lots)
        return ("case", *leg, branches if first is None else (first, *branches[1:]))

    def rest(self, one, lot, thread):
        other = next(other for other in (0, 1, 4) if other not in (one, lot))
        return ("case", "bob", 1, ((other, thread),))

    def test_right_papers(self):
        self.asks(self.paper(), True)
        self.asks(self.paper(so=("so", (("ann", 0, 0), ("ann", 0, 2)))), True)
        self.asks(self.paper(so=("so", (("ann", 0, 2), ("ann", 2, 2), ("ann", 2, 2)))), True)
        self.asks(self.paper(so=("so", (("ann", 2, 0),))), True, (-1, 0), "Elm", "Oak")
        self.asks(self.paper(so=("so", (("ann", 2, 2),))), True, (0, 0), "Elm", "Elm")
        word, place, paper = surely(self.atlas, "Oak", "Elm")
        self.assertEqual((word, place), ("apart", (1, 0)))
        self.asks(paper, True)

    def test_legs_dealt_ahead_of_need(self):
        so = ("so", (("ann", 0, 2),))
        more = ("case", "bob", 0, ((0, so), (4, ("case", "bob", 1, ((0, so),)))))
        self.asks(self.paper(so=more), True)
        self.asks(self.paper(so=("case", "bob", 1, ((0, so), (4, so)))), True)

    def test_so_over_two_walkers(self):
        # Where bob's first compass is dealt too, its Oak is as good as that of ann.
        so = ("so", (("bob", 0, 0), ("ann", 0, 2)))
        self.asks(self.paper(so=("case", "bob", 0, ((0, so), (4, so)))), True)
        self.asks(self.paper(so=so), False)
        late = ("so", (("bob", 5, 5), ("ann", 0, 2)))
        self.asks(self.paper(so=("case", "bob", 0, ((0, late), (4, late)))), False)
        dealt = tuple((lot, ("case", "bob", 1, ((4 - lot, late),))) for lot in (0, 4))
        self.asks(self.paper(so=("case", "bob", 0, dealt)), True)

    def test_another_place(self):
        for place in ((0, 0), (0, 1), (1, 1), (2, 0), (-1, 0), (1, -1), (0, -1), (FAR, 0), (-FAR, FAR)):
            self.asks(self.paper(), False, place)

    def test_places_that_are_none(self):
        for place in odd() + [(1,), (1, 0, 0), (True, 0), (1, False), ("1", "0"), (1, None), (None, 0), ((1, 0),), ((1,), (0,)),
                              (1, (0,)), ([], [])]:
            self.asks(self.paper(), False, place)
        # A list is as good as a tuple.
        self.assertIs(shows(self.atlas, "Oak", "Elm", [1, 0], self.paper()), True)

    def test_other_signs(self):
        for sign in odd() + [*NO_SIGNS, "Ash", ("Oak",), ["Elm"]]:
            self.asks(self.paper(), False, one=sign)
            self.asks(self.paper(), False, other=sign)
            self.asks(self.paper(), False, one=sign, other=sign)

    def test_the_signs_exchanged(self):
        self.asks(self.paper(), False, one="Elm", other="Oak")
        self.asks(self.paper(), False, (-1, 0), "Elm", "Oak")
        self.asks(self.paper(), False, one="Oak", other="Oak")
        self.asks(self.paper(), False, (0, 0), "Oak", "Oak")
        self.asks(self.paper(), False, (0, 0), "Elm", "Elm")
        self.asks(self.paper(so=("so", (("ann", 2, 0),))), False)
        self.asks(self.paper(so=("so", (("ann", 2, 0),))), False, (-1, 0))

    def test_ends_that_are_not_the_signs(self):
        for thread in (
            (("ann", 0, 1),), (("ann", 1, 2),), (("ann", 1, 1),), (("ann", 0, 0),), (("ann", 2, 2),), (("ann", 0, 0), ("ann", 0, 1)),
        ):
            for place in ((1, 0), (0, 0), (-1, 0)):
                self.asks(self.paper(so=("so", thread)), False, place)

    def test_so_for_thread_and_thread_for_so(self):
        self.asks(self.paper(so=("thread", (("ann", 0, 2),))), False)
        self.asks(self.paper(thread=("so", (("bob", 0, 5),))), False)
        self.asks(self.paper(thread=("so", (("ann", 0, 2),))), False)
        # With the lot 0 or 4 Elm lies north of Oak, as it can't.
        self.asks(self.paper(lots=(0, 1, 4), first=(0, ("so", (("ann", 0, 2),)))), False)
        self.asks(self.paper(lots=(0, 1, 4), first=(0, ("so", (("ann", 0, 2),)))), False, (0, 1))

    def test_bars_takes_no_so(self):
        self.assertIs(bars(self.atlas, self.paper()), False)
        for so in (("so", (("ann", 0, 2),)), ("so", ()), ("so", None)):
            self.assertIs(bars(self.atlas, so), False)

    def test_legs_not_dealt(self):
        self.asks(("so", (("ann", 0, 2),)), False)
        self.asks(("so", (("ann", 0, 0),)), False, (0, 0), "Oak", "Oak")
        so = ("so", (("ann", 0, 2),))
        self.asks(("case", "bob", 0, ((0, so), (1, so), (4, so))), False)
        self.asks(self.paper(leg=("bob", 0)), False)
        self.asks(self.paper(leg=("ann", 1)), False)
        self.asks(self.paper(leg=("cy", 0)), False)
        self.asks(self.paper(leg=("ann", False)), False)

    def test_a_leg_dealt_twice(self):
        self.asks(self.paper(so=("case", "ann", 0, ((0, ("so", (("ann", 0, 2),))), (4, ("so", (("ann", 0, 2),)))))), False)

    def test_branches(self):
        self.asks(self.paper(lots=(0, 1)), False)
        self.asks(self.paper(lots=(1, 4)), False)
        self.asks(self.paper(lots=(1,)), False)
        self.asks(self.paper(lots=()), False)
        self.asks(self.paper(lots=(4, 1, 0)), False)
        self.asks(self.paper(lots=(0, 1, 1, 4)), False)
        whole = self.paper()
        for lot in (False, True, 2, -1, None, "0", (0,), FAR):
            self.asks(("case", "ann", 0, ((lot, whole[3][0][1]), *whole[3][1:])), False)
        self.asks(("case", "ann", 0, (*whole[3], (5, whole[3][1][1]))), False)
        self.asks(("case", "ann", 0, (whole[3][0], (True, whole[3][1][1]), whole[3][2])), False)

    def test_stretches_that_are_none(self):
        for stretches in odd() + [
            ("ann", 0, 2), (("ann", 0, 3),), (("ann", 0, -1),), (("ann", False, 2),), (("ann", 0, 2, 0),), (("ann", 0),),
            (("bob", 0, 2),), (("Ann", 0, 2),), (("ann", 0, 0), ("ann", 2, 2)), (("ann", 0, 1), ("ann", 1, 2)), ((0, 2),),
        ]:
            if stretches != (("ann", 0, 2),):
                self.asks(self.paper(so=("so", stretches)), False)

    def test_things_of_any_kind(self):
        whole = self.paper()
        for thing in odd():
            self.asks(thing, False)
            self.asks(self.paper(so=thing), thing == ("so", (("ann", 0, 2),)))
            self.asks(("case", "ann", 0, thing), False)
            self.asks(("case", "ann", thing, whole[3]), flat(thing) == flat(0))
            self.asks(("case", thing, 0, whole[3]), thing == "ann")
            self.asks((thing, *whole[1:]), thing == "case")
            self.asks((*whole, thing), False)
            self.asks(("case", "ann", 0, (*whole[3], thing)), False)
            self.asks(("case", "ann", 0, (whole[3][0], thing, whole[3][2])), False)
            for given in ((thing, "Elm", (1, 0), whole), ("Oak", thing, (1, 0), whole), ("Oak", "Elm", thing, whole)):
                self.assertIs(shows(self.atlas, *given), False)
            self.assertIs(shows(Atlas(RIGHT), thing, thing, thing, thing), False)
            self.assertIs(shows(self.atlas, thing, thing, thing, thing), False)

    def test_where_none_fits(self):
        self.atlas = barred_atlas()
        self.box, self.logs = self.atlas.box, dict(zip(self.atlas.names, self.atlas.logs))
        word, paper = surely(self.atlas, "Oak", "Elm")
        self.assertEqual(word, "barred")
        for one, other in (("Oak", "Elm"), ("Elm", "Oak"), ("Oak", "Oak")):
            for place in ((0, 0), (5, -7), (FAR, -FAR)):
                self.asks(paper, True, place, one, other)
        for sign in ("Ash", "hut", "", None):
            self.asks(paper, False, (0, 0), "Oak", sign)
            self.asks(paper, False, (0, 0), sign, "Oak")
        self.asks(paper, False, (0, 0, 0))
        self.asks(paper, False, None)

    def test_not_linked_where_none_fits(self):
        self.atlas = Atlas((0,) * 8, (("ann", (OAK,)), ("bob", (ELM,))))
        self.box, self.logs = self.atlas.box, dict(zip(self.atlas.names, self.atlas.logs))
        self.asks(("case", "bob", 0, ()), True, (3, 4))
        self.asks(("case", "bob", 0, ()), True, (0, 0))

    def test_not_linked_where_some_fit(self):
        self.atlas = Atlas((2, 0, 0, 0, 0, 0, 0, 0), (("ann", (OAK,)), ("bob", (ELM,))))
        self.box, self.logs = self.atlas.box, dict(zip(self.atlas.names, self.atlas.logs))
        for stretches in ((("ann", 0, 0), ("bob", 0, 0)), (("ann", 0, 0),), (("bob", 0, 0),)):
            self.asks(("case", "ann", 0, ((0, ("case", "bob", 0, ((0, ("so", stretches)),))),)), False, (0, 0))

    def test_a_deep_paper(self):
        paper = ("so", (("ann", 0, 2),))
        for _ in range(3000):
            paper = ("case", "ann", 0, ((0, paper), (1, paper), (4, paper)))
        self.assertIs(shows(self.atlas, "Oak", "Elm", (1, 0), paper), False)

    def test_papers_spoilt_at_random(self):
        chance = random.Random(25)
        found = {True: 0, False: 0}
        for _ in range(400):
            box, logs, _ = oracle.random_case(chance, chance.randrange(2), 3)
            atlas = Atlas(box, list(logs.items()))
            signs = sorted(set().union(*[oracle.lone(log) for log in logs.values()]))
            if not signs:
                continue
            one, other = chance.choice(signs), chance.choice(signs)
            told = surely(atlas, one, other)
            if told[0] not in ("apart", "barred"):
                continue
            for _ in range(6):
                paper, place = told[-1], told[1] if told[0] == "apart" else (0, 0)
                if chance.random() < 0.8:
                    paper = spoilt(chance, paper)
                else:
                    place = spoilt(chance, place)
                wanted = oracle.shows(box, logs, one, other, place, paper)
                found[wanted] += 1
                self.assertIs(shows(atlas, one, other, place, paper), wanted, (box, logs, one, other, place, paper))
        self.assertGreater(found[False], 300)
        self.assertGreater(found[True], 10)

    def test_no_paper_for_what_is_not_so(self):
        # A paper that says so wherever signs are told: it is right just where they are so apart in each that fits.
        chance = random.Random(26)
        found = {True: 0, False: 0}
        for _ in range(150):
            box, logs, _ = oracle.random_case(chance, chance.randrange(2), 3)
            atlas = Atlas(box, list(logs.items()))
            signs = sorted(set().union(*[oracle.lone(log) for log in logs.values()]))
            for one in signs[:2]:
                for other in signs[-2:]:
                    told = oracle.surely(box, logs, one, other)
                    for dealing in oracle.fits(box, logs)[:2]:
                        place = oracle.apart(logs, dealing, one, other)
                        if place is not None:
                            paper = surely(Atlas(tuple(dealing.count(lot) for lot in range(8)), list(logs.items())), one, other)[-1]
                            wanted = oracle.shows(box, logs, one, other, place, paper)
                            found[wanted] += 1
                            self.assertIs(shows(atlas, one, other, place, paper), wanted)
                            self.assertFalse(wanted and told[0] == "unlike")
        self.assertGreater(min(found.values()), 10)


if __name__ == "__main__":
    unittest.main()
