"""Points 16, 18, 19 and 20: bad threads, papers, and what is settled."""

import random
import unittest

from tests import oracle
from tests.samples import FAR, alike, caught, flat, listed, nested, odd_things, spoilt
from wayneedle.atlas import Atlas, told
from wayneedle.bars import bars, is_bad, settled
from wayneedle.errors import NoDealing
from wayneedle.fits import fits, spread

FACE = ("face", "n")

SWAP = ("swap",)

RIGHT = (6, 0, 0, 0, 0, 0, 0, 0)

OAK, ELM, ASH, HUT = ("sign", "Oak"), ("sign", "Elm"), ("sign", "Ash"), ("sign", "hut")

# Facts of ann: 0 Oak (0, 0); 1, 2 open; 3 Elm (0, 2); 4 hut (0, 3); 5 shut (0, 2, n); 6 Oak (0, 1).
ANN = (OAK, FACE, ("go", 2), ELM, ("spy", 1, "hut"), ("bump",), ("back",), ("spy", 1, "Oak"))

# Facts of bob: 0 Elm (0, 0); 1 open (0, 0, n); 2 bare (0, 1); 3 hut (0, 1); 4 open (0, 1, e); 5 Ash (1, 1); 6 Oak (1, 1).
BOB = (ELM, FACE, ("go", 1), ("bare",), HUT, ("right",), ("go", 1), ASH, OAK)

# Facts of cy: 0 Ash (0, 0); 1 Fir (0, 1).
CY = (ASH, FACE, ("spy", 1, "Fir"))

LOGS = (("ann", ANN), ("bob", BOB), ("cy", CY))


def odd():
    """Things of any kind, made anew at each call."""
    return odd_things() + [
        0, 1, 7, 8, "", "ann", "thread", "case", "Oak", "~" * 4000, (0,), [0], [[]], ((),), (((),),), ("ann", 0, 99),
        ["ann", -1, 1], (("ann",),), (("ann", 0),), (("ann", 0, 1, 2),), ((0, 0, 0),), (None, None, None), nested(400),
        ("thread",), ("case",), ("thread", ()), ("thread", None), ("case", "ann", 0), ("so", (("ann", 0, 0),)),
    ]


class Threads(unittest.TestCase):
    def setUp(self):
        self.atlas = Atlas(RIGHT, LOGS)

    def asks(self, thread, wanted, dealing=(0, 0, 0)):
        self.assertIs(is_bad(self.atlas, dealing, thread), wanted, thread)
        given = listed(thread)
        self.assertIs(is_bad(thread=given, dealing=list(dealing), atlas=self.atlas), wanted, thread)
        self.assertTrue(alike(given, listed(thread)))

    def test_the_facts_are_as_noted_above(self):
        rows = [[fact[1:] for fact in told(self.atlas, (0, 0, 0), name)] for name in self.atlas.names]
        self.assertEqual(rows[0][3:], [
            ("sign", (0, 2), "Elm"), ("sign", (0, 3), "hut"), ("shut", (0, 2), "n"), ("sign", (0, 1), "Oak")])
        self.assertEqual(rows[1], [
            ("sign", (0, 0), "Elm"), ("open", (0, 0), "n"), ("bare", (0, 1), ""), ("sign", (0, 1), "hut"),
            ("open", (0, 1), "e"), ("sign", (1, 1), "Ash"), ("sign", (1, 1), "Oak")])
        self.assertEqual(rows[2], [("sign", (0, 0), "Ash"), ("sign", (0, 1), "Fir")])

    def test_a_lone_sign_at_two_places(self):
        self.asks((("ann", 0, 6),), True)
        self.asks((("ann", 6, 0),), True)
        self.asks((("ann", 0, 3), ("bob", 0, 6)), True)
        self.asks((("bob", 6, 0), ("ann", 3, 6)), True)

    def test_two_unlike_signs(self):
        self.asks((("bob", 5, 6),), True)
        self.asks((("bob", 6, 5),), True)
        # Of unlike places they are not bad.
        self.asks((("bob", 0, 6),), False)
        self.asks((("ann", 0, 4),), False)

    def test_unlike_signs_over_several_stretches(self):
        # Oak of bob is Oak of ann, from there to the other Oak of ann, and on to bob: a sum other than (0, 0).
        self.asks((("bob", 0, 6), ("ann", 0, 6), ("bob", 6, 0)), True)
        self.asks((("bob", 5, 5), ("cy", 0, 0), ("bob", 5, 6)), True)
        self.asks((("bob", 5, 5), ("cy", 0, 1)), False)

    def test_a_sign_and_bare(self):
        self.asks((("bob", 2, 3),), True)
        self.asks((("bob", 3, 2),), True)
        self.asks((("bob", 2, 0), ("ann", 3, 4)), True)
        self.asks((("ann", 4, 3), ("bob", 0, 2)), True)
        self.asks((("bob", 2, 5),), False)

    def test_a_way_open_and_shut(self):
        self.asks((("ann", 5, 3), ("bob", 0, 1)), True)
        self.asks((("bob", 1, 0), ("ann", 3, 5)), True)
        # Other ways, and ways of another side.
        self.asks((("ann", 5, 1),), False)
        self.asks((("ann", 5, 3), ("bob", 0, 4)), False)

    def test_ways_of_one_place_and_unlike_sides(self):
        self.atlas = Atlas(RIGHT, (("ann", (FACE, ("bump",), ("right",), ("go", 1), ("left",), ("bump",))),))
        self.asks((("ann", 0, 1),), False, (0,))
        self.asks((("ann", 1, 0),), False, (0,))
        self.asks((("ann", 1, 1),), False, (0,))

    def test_ends_that_can_be(self):
        for fact in range(7):
            self.asks((("ann", fact, fact),), False)
        # Two like signs that are not lone, two bares, two opens, a sign and a way, bare and a way at one place.
        self.asks((("ann", 4, 3), ("bob", 0, 3)), False)
        self.asks((("bob", 2, 2),), False)
        self.asks((("bob", 3, 4),), False)
        self.asks((("bob", 2, 4),), False)
        self.asks((("ann", 3, 5),), False)
        self.asks((("ann", 3, 3), ("bob", 0, 0)), False)

    def test_like_signs_that_are_not_lone_are_not_bad_anywhere(self):
        self.atlas = Atlas(RIGHT, (("ann", (HUT, FACE, ("go", 1), HUT, ("bare",), ("go", 1), ("bare",))),))
        self.asks((("ann", 0, 2),), False, (0,))
        self.asks((("ann", 3, 5),), False, (0,))
        self.asks((("ann", 2, 3),), True, (0,))

    def test_stretches_that_do_not_hang_together(self):
        for thread in (
            (("ann", 0, 6), ("bob", 0, 6)),             # Oak, Elm
            (("ann", 0, 4), ("bob", 3, 6)),             # hut is not lone
            (("ann", 0, 1), ("bob", 1, 6)),             # ways
            (("ann", 0, 3), ("bob", 6, 6)),             # Elm, Oak
            (("bob", 3, 2), ("bob", 2, 2)),             # bare
            (("ann", 0, 3), ("bob", 0, 5), ("cy", 1, 1)),
        ):
            self.asks(thread, False)

    def test_the_same_walker_again(self):
        self.asks((("ann", 0, 6), ("ann", 0, 6)), True)
        self.asks((("ann", 0, 6), ("ann", 6, 0)), False)
        self.asks((("ann", 6, 0), ("ann", 6, 6)), True)
        self.asks((("ann", 0, 3), ("ann", 3, 6)), True)

    def test_a_long_thread(self):
        self.asks((("ann", 0, 0),) * 500 + (("ann", 0, 6),), True)
        self.asks((("ann", 0, 0),) * 500, False)

    def test_numbers_out_of_range(self):
        for number in (-1, -6, -7, 7, 8, 100, FAR, -FAR, True, False, None, "0", "", (0,), [0], (), nested(150)):
            self.asks((("ann", 0, number),), False)
            self.asks((("ann", number, 6),), False)
            self.asks((("ann", 0, 6), ("ann", 6, number)), False)
            self.asks((("ann", number, 6), ("ann", 0, 6)), False)
            self.asks((("cy", number, 0), ("bob", 5, 6)), False)

    def test_truths_are_no_numbers(self):
        self.atlas = Atlas(RIGHT, (("ann", (OAK, ("bare",))),))
        self.asks((("ann", 0, 1),), True, (0,))
        self.asks((("ann", 0, True),), False, (0,))
        self.asks((("ann", False, 1),), False, (0,))

    def test_names_that_are_none(self):
        for name in odd() + ["dora", "Ann", "an"]:
            if name != "ann":
                self.asks(((name, 0, 6),), False)
                self.asks((("ann", 0, 6), (name, 0, 6)), False)

    def test_no_stretch_and_things_of_any_kind(self):
        for thing in odd():
            self.asks(thing, False)
            self.asks((thing,), False)
            self.asks((("ann", 0, 6), thing), False)
            self.asks((thing, ("ann", 0, 6)), False)
        self.asks((("ann", 0, 6, 6),), False)
        self.asks((("ann", 0),), False)
        self.asks(("ann", 0, 6), False)

    def test_the_sum_hangs_on_the_dealing(self):
        self.atlas = Atlas((2,) * 8, (("ann", (OAK, FACE, ("go", 2), ELM)), ("bob", (OAK, FACE, ("go", 2), ELM))))
        thread = (("ann", 0, 3), ("bob", 3, 0))
        for one in range(8):
            for other in range(8):
                self.asks(thread, one % 4 != other % 4, (one, other))

    def test_a_walker_that_tells_nothing(self):
        self.atlas = Atlas(RIGHT, (("ann", ()),))
        self.asks((("ann", 0, 0),), False, (0,))
        self.assertIs(is_bad(Atlas(RIGHT), (), (("ann", 0, 0),)), False)
        self.assertIs(is_bad(Atlas(RIGHT), (), ()), False)

    def test_no_dealing(self):
        for thread in ((("ann", 0, 6),), None, (), "a"):
            for dealing, at in (
                ((), 3), ((0, 0), 3), ((0,) * 4, 3), ((None, 0), 3), ((0, 0, 1), 2), ((1, 0, 0), 0), ((0, True, 0), 1),
                ((0, [], 9), 1), ((0, 0, 8), 2), ((0, 0, -1), 2), (("0", 0, 0), 0),
            ):
                for given in (dealing, list(dealing)):
                    why = caught(NoDealing, is_bad, self.atlas, given, thread)
                    self.assertTrue(alike(why.at, at))
                    self.assertEqual(caught(NoDealing, is_bad, thread=thread, dealing=given, atlas=self.atlas).at, at)

    def test_at_random(self):
        chance = random.Random(7)
        found = {True: 0, False: 0}
        for _ in range(150):
            box, logs, dealing = oracle.random_case(chance, liars=chance.randrange(3))
            atlas = Atlas(box, list(logs.items()))
            rows = oracle.told(logs, dealing)
            names = [name for name in rows if rows[name]]
            for _ in range(40 if names else 0):
                thread = self.random_thread(chance, rows, names)
                wanted = oracle.is_bad(logs, dealing, thread)
                found[wanted] += 1
                self.assertIs(is_bad(atlas, dealing, thread), wanted, (logs, dealing, thread))
                self.assertIs(is_bad(atlas, list(dealing), listed(thread)), wanted)
        self.assertGreater(min(found.values()), 50)

    def random_thread(self, chance, rows, names):
        """Stretches that mostly hang together."""
        name = chance.choice(names)
        thread = []
        one = chance.randrange(len(rows[name]))
        for _ in range(chance.choice((1, 1, 2, 3, 4))):
            other = chance.randrange(len(rows[name]))
            thread.append((name, one, other))
            like = [(n, k) for n in names for k, fact in enumerate(rows[n]) if fact[3] == rows[name][other][3] != ""]
            if chance.random() < 0.9 and rows[name][other][3][:1].isupper():
                name, one = chance.choice(like)
            else:
                break
        return tuple(thread)


class Papers(unittest.TestCase):
    """Papers of two walkers whose logs no two lots of the box allow."""

    def setUp(self):
        # Facts of both: 0 Oak, 1 open, 2 Elm, one step away by the letter n (ann) and s (bob).
        ann = (OAK, FACE, ("go", 1), ELM)
        bob = (OAK, ("face", "s"), ("go", 1), ELM)
        self.box = (1, 2, 0, 0, 0, 0, 0, 0)
        self.logs = {"ann": ann, "bob": bob}
        self.atlas = Atlas(self.box, list(self.logs.items()))
        self.thread = ("thread", (("ann", 2, 0), ("bob", 0, 2)))

    def paper(self):
        """A right one."""
        return ("case", "ann", 0, (
            (0, ("case", "bob", 0, ((1, self.thread),))), (1, ("case", "bob", 0, ((0, self.thread), (1, self.thread))))))

    def asks(self, paper, wanted):
        self.assertIs(bars(self.atlas, paper), wanted, paper)
        given = listed(paper)
        self.assertIs(bars(paper=given, atlas=self.atlas), wanted, paper)
        self.assertTrue(alike(given, listed(paper)))
        # The other way of reckoning must tell the same.
        self.assertIs(oracle.is_right(self.box, self.logs, paper), wanted, paper)

    def test_right_papers(self):
        self.asks(self.paper(), True)
        back = ("thread", (("bob", 2, 0), ("ann", 0, 2)))
        self.asks(("case", "bob", 0, (
            (0, ("case", "ann", 0, ((1, back),))), (1, ("case", "ann", 0, ((0, self.thread), (1, back)))))), True)

    def test_a_case_without_branches(self):
        self.box = (0,) * 8
        self.atlas = Atlas(self.box, list(self.logs.items()))
        self.asks(("case", "ann", 0, ()), True)
        self.asks(("case", "bob", 0, ()), True)
        for leg in (1, -1, True, False, None, "0", FAR):
            self.asks(("case", "ann", leg, ()), False)
        self.asks(("case", "cy", 0, ()), False)
        self.asks(("case", "ann", 0, ((0, self.thread),)), False)
        self.asks(("case", "ann", 0, None), False)
        self.asks(("case", "ann", 0, ""), False)
        self.asks(("case", "ann", 0), False)
        self.box = (1, 0, 0, 0, 0, 0, 0, 0)
        self.atlas = Atlas(self.box, list(self.logs.items()))
        self.asks(("case", "ann", 0, ((0, ("case", "bob", 0, ())),)), True)
        self.asks(("case", "ann", 0, ()), False)
        self.asks(("case", "ann", 0, ((0, ("case", "ann", 0, ())),)), False)

    def test_a_leg_dealt_twice_or_not_the_atlases(self):
        inner = ("case", "bob", 0, ((0, self.thread), (1, self.thread)))
        for name, leg in (("ann", 0), ("cy", 0), ("bob", 1), ("bob", -1), ("bob", True), ("bob", False), ("bob", None),
                          ("bob", "0"), ("bob", (0,)), (None, 0), (["bob"], 0), (("bob",), 0), (True, 0), ("", 0), ("Bob", 0)):
            wrong = ("case", name, leg, inner[3])
            self.asks(("case", "ann", 0, ((0, self.paper()[3][0][1]), (1, wrong))), False)
        for name, leg in (("cy", 0), ("ann", 1), ("ann", False), ("ann", None), ([], 0), ("", 0), (nested(150), 0)):
            self.asks(("case", name, leg, self.paper()[3]), False)

    def test_a_lot_more_or_less(self):
        first, second = self.paper()[3]
        third = (2, second[1])
        for branches in ((first,), (second,), (), (first, second, third), (first, third), ((-1, first[1]), first, second),
                         (first, second, (8, second[1])), (first, second, (FAR, second[1]))):
            self.asks(("case", "ann", 0, branches), False)
        # The lot 0 is dealt already: it isn't left for bob.
        more = ("case", "bob", 0, ((0, self.thread), (1, self.thread)))
        self.asks(("case", "ann", 0, ((0, more), second)), False)
        for less in (("case", "bob", 0, ((0, self.thread),)), ("case", "bob", 0, ((1, self.thread),)), ("case", "bob", 0, ())):
            self.asks(("case", "ann", 0, (first, (1, less))), False)

    def test_lots_not_rising(self):
        first, second = self.paper()[3]
        for branches in ((second, first), (first, first, second), (first, second, second), (first, second, first)):
            self.asks(("case", "ann", 0, branches), False)
        inner = ("case", "bob", 0, ((1, self.thread), (0, self.thread)))
        self.asks(("case", "ann", 0, (first, (1, inner))), False)

    def test_things_that_are_no_lots(self):
        first, second = self.paper()[3]
        for thing in odd():
            if thing not in (0, 1) or isinstance(thing, bool):
                self.asks(("case", "ann", 0, ((thing, first[1]), second)), False)
                self.asks(("case", "ann", 0, (first, (thing, second[1]))), False)
        self.asks(("case", "ann", 0, ((False, first[1]), second)), False)
        self.asks(("case", "ann", 0, (first, (True, second[1]))), False)

    def test_a_thread_whose_legs_are_not_dealt(self):
        self.asks(self.thread, False)
        self.asks(("case", "ann", 0, ((0, self.thread), (1, self.thread))), False)
        self.asks(("case", "bob", 0, ((0, self.thread), (1, self.thread))), False)

    def test_a_thread_that_is_not_bad(self):
        first, second = self.paper()[3]
        for stretches in (
            (("ann", 0, 0),), (("ann", 0, 2),), (("ann", 0, 0), ("bob", 0, 0)), (("ann", 2, 0), ("bob", 2, 0)),
            (("ann", 2, 0), ("bob", 0, 3)), (("ann", 2, 0), ("bob", 0, -1)), (("ann", 2, 0), ("bob", False, 2)),
            (("ann", 2, 0), ("cy", 0, 2)), (), None, "ann", ("ann", 0, 2), ((),), ((0, 0, 0),), (("ann", 2, 0, 0),),
        ):
            wrong = ("case", "bob", 0, ((0, self.thread), (1, ("thread", stretches))))
            self.asks(("case", "ann", 0, (first, (1, wrong))), False)

    def test_a_thread_that_is_bad_with_other_lots_only(self):
        # With 0 and 2 the letters n and s lead the same way, so there the thread is not bad.
        self.box = (1, 1, 1, 0, 0, 0, 0, 0)
        self.atlas = Atlas(self.box, list(self.logs.items()))
        cases = []
        for lot in range(3):
            rest = tuple((other, self.thread) for other in range(3) if other != lot)
            cases.append((lot, ("case", "bob", 0, rest)))
        self.asks(("case", "ann", 0, tuple(cases)), False)

    def test_things_of_any_kind(self):
        first, second = self.paper()[3]
        for thing in odd():
            self.asks(thing, False)
            self.asks(("thread", thing), False)
            self.asks(("case", "ann", 0, thing), False)
            self.asks(("case", "ann", 0, (first, thing)), False)
            self.asks(("case", "ann", 0, (first, (1, thing))), False)
            self.asks(("case", thing, 0, (first, second)), thing == "ann")
            self.asks((thing, "ann", 0, (first, second)), thing == "case")
            self.asks((*self.paper(), thing), False)
            self.asks(("case", "ann", 0, (first, (*second, thing))), False)
            self.asks(("case", "ann", 0, (first, (1, (*second[1], thing)))), False)

    def test_words_that_are_none(self):
        for word in ("Thread", "so", "cases", "", "case "):
            self.asks((word, *self.paper()[1:]), False)
            self.asks(("case", "ann", 0, tuple((lot, (word, *below[1:])) for lot, below in self.paper()[3])), False)

    def test_a_deep_paper(self):
        paper = self.thread
        for _ in range(3000):
            paper = ("case", "ann", 0, ((0, paper), (1, paper)))
        self.assertIs(bars(self.atlas, paper), False)
        paper = self.thread
        for _ in range(3000):
            paper = ["case", "ann", 0, [[0, paper], [1, self.thread]]]
        self.assertIs(bars(self.atlas, paper), False)

    def test_an_atlas_without_walkers(self):
        atlas = Atlas(RIGHT)
        for thing in odd() + [self.paper(), self.thread]:
            self.assertIs(bars(atlas, thing), False)


class Legs(unittest.TestCase):
    """Which legs a thread needs."""

    def setUp(self):
        # Facts of ann: 0 hut, 1 bare (leg 0); 2 open (leg 1); 3 open, 4 bare (leg 3); leg 2 has no entries but its swap.
        self.log = (HUT, ("bare",), SWAP, FACE, ("go", 1), SWAP, SWAP, ("back",), ("go", 1), ("bare",))
        self.box = (4, 0, 0, 0, 0, 0, 0, 0)
        self.atlas = Atlas(self.box, (("ann", self.log),))

    def asks(self, paper, wanted):
        self.assertIs(bars(self.atlas, paper), wanted)
        self.assertIs(oracle.is_right(self.box, {"ann": self.log}, paper), wanted)

    def dealt(self, legs, thread):
        paper = ("thread", thread)
        for leg in reversed(legs):
            paper = ("case", "ann", leg, ((0, paper),))
        return paper

    def test_up_to_the_leg_of_the_later_fact(self):
        self.assertEqual([fact[:2] for fact in told(self.atlas, (0,) * 4, "ann")], [
            (0, "sign"), (1, "bare"), (4, "open"), (8, "open"), (9, "bare")])
        soon, late = (("ann", 0, 1),), (("ann", 0, 4),)
        for legs, by_soon, by_late in (
            ([], False, False), ([0], True, False), ([1], False, False), ([1, 0], True, False), ([0, 1, 2], True, False),
            ([0, 1, 2, 3], True, True), ([3, 2, 1, 0], True, True), ([1, 3, 0, 2], True, True), ([1, 2, 3], False, False),
            ([0, 1, 3], True, False), ([0, 3, 2], True, False), ([0, 0], False, False), ([0, 1, 2, 3, 3], False, False),
        ):
            self.asks(self.dealt(legs, soon), by_soon)
            self.asks(self.dealt(legs, (("ann", 1, 0),)), by_soon)
            self.asks(self.dealt(legs, late), by_late)
            self.asks(self.dealt(legs, (("ann", 4, 0),)), by_late)

    def test_a_stretch_between_needs_its_legs_too(self):
        # The ends are told by leg 0, but the way between leads over Elm of ann's leg 1 and bob's.
        ann = (OAK, SWAP, FACE, ("go", 1), ELM)
        bob = (OAK, ("face", "s"), ("go", 1), ELM)
        logs = {"ann": ann, "bob": bob}
        box = (3, 0, 0, 0, 0, 0, 0, 0)
        atlas = Atlas(box, list(logs.items()))
        thread = ("thread", (("bob", 0, 2), ("ann", 2, 0)))
        for legs, wanted in (
            ([("ann", 0), ("ann", 1), ("bob", 0)], True), ([("bob", 0), ("ann", 1), ("ann", 0)], True),
            ([("ann", 0), ("bob", 0)], False), ([("ann", 1), ("bob", 0)], False), ([("ann", 0), ("ann", 1)], False),
        ):
            paper = thread
            for name, leg in reversed(legs):
                paper = ("case", name, leg, ((0, paper),))
            self.assertIs(bars(atlas, paper), wanted)
            self.assertIs(oracle.is_right(box, logs, paper), wanted)


class Settled(unittest.TestCase):
    def test_without_walkers(self):
        for box in (RIGHT, (0,) * 8):
            self.assertTrue(alike(settled(Atlas(box)), ("fits", ())))

    def test_the_least_that_fits(self):
        atlas = Atlas((0, 2, 1, 1, 0, 0, 0, 0), (("ann", ()), ("bob", (SWAP,))))
        self.assertTrue(alike(settled(atlas), ("fits", (1, 1, 2))))
        self.assertTrue(alike(settled(atlas=atlas), ("fits", (1, 1, 2))))
        ann, bob = (OAK, FACE, ("go", 1), ELM), (OAK, ("face", "s"), ("go", 1), ELM)
        atlas = Atlas((1, 1, 1, 0, 0, 0, 1, 0), (("ann", ann), ("bob", bob)))
        self.assertTrue(alike(settled(atlas), ("fits", (0, 2))))

    def barred(self, box, logs):
        atlas = Atlas(box, logs)
        word, paper = settled(atlas)
        self.assertEqual(word, "barred")
        self.assertIs(bars(atlas, paper), True)
        self.assertIs(bars(atlas, listed(paper)), True)
        self.assertTrue(oracle.is_right(box, dict(logs), paper))
        self.assertFalse(any(isinstance(part, list) for part in self.parts(paper)))
        self.assertEqual(fits(atlas), ())
        return paper

    def parts(self, paper):
        """All that the paper is made of."""
        found = [paper]
        for part in paper if isinstance(paper, (tuple, list)) else ():
            found += self.parts(part)
        return found

    def test_too_few_compasses(self):
        self.assertTrue(alike(self.barred((0,) * 8, (("ann", ()),)), ("case", "ann", 0, ())))
        self.barred((1, 0, 1, 0, 0, 0, 0, 1), (("ann", (SWAP,)), ("bob", ()), ("cy", ())))

    def test_none_fits(self):
        self.barred((1,) * 8, (("ann", (OAK, ("bare",))),))
        self.barred((1,) * 8, (("ann", ()), ("bob", (OAK, ("bare",)))))
        ann, bob = (OAK, FACE, ("go", 1), ELM), (OAK, ("face", "s"), ("go", 1), ELM)
        self.barred((2, 1, 0, 0, 1, 0, 0, 0), (("ann", ann), ("bob", bob)))
        log = (OAK, FACE, ("go", 1), SWAP, ("face", "e"), ("go", 2), SWAP, ("face", "n"), ("go", 4), OAK)
        self.barred((1, 1, 0, 1, 0, 1, 0, 0), (("ann", log),))

    def test_at_random(self):
        chance = random.Random(8)
        found = {"fits": 0, "barred": 0}
        for _ in range(400):
            box, logs, dealing = oracle.random_case(chance, liars=chance.randrange(5), many_lots=chance.choice((2, 3, 8)))
            if len(dealing) > 4 and max(box[3:]) > 0:
                continue
            atlas = Atlas(box, list(logs.items()))
            before = flat((atlas.box, atlas.names, atlas.logs))
            wanted = oracle.fits(box, logs)
            told_of = settled(atlas)
            found[told_of[0]] += 1
            if wanted:
                self.assertTrue(alike(told_of, ("fits", wanted[0])))
            else:
                self.assertEqual(told_of[0], "barred")
                self.barred(box, tuple(logs.items()))
            self.assertTrue(alike(told_of, settled(Atlas(list(box), list(logs.items())[::-1]))))
            self.assertEqual(flat((atlas.box, atlas.names, atlas.logs)), before)
        self.assertGreater(min(found.values()), 40)

    def test_papers_spoilt_at_random(self):
        chance = random.Random(9)
        found = {True: 0, False: 0}
        for _ in range(500):
            box, logs, dealing = oracle.random_case(chance, liars=4, many_lots=3)
            atlas = Atlas(box, list(logs.items()))
            word, paper = settled(atlas)
            if word == "barred":
                for _ in range(6):
                    other = spoilt(chance, paper)
                    wanted = oracle.is_right(box, logs, other)
                    found[wanted] += 1
                    self.assertIs(bars(atlas, other), wanted, (box, logs, other))
        self.assertGreater(found[False], 100)
        self.assertGreater(found[True], 5)

    def test_no_paper_where_a_dealing_fits(self):
        chance = random.Random(10)
        for _ in range(150):
            box, logs, dealing = oracle.random_case(chance, many_lots=3)
            atlas = Atlas(box, list(logs.items()))
            self.assertEqual(settled(atlas)[0], "fits")
            # A paper that names a thread wherever there is one; with the true dealing there is none to name.
            self.assertIs(bars(atlas, self.tried(atlas, ())), False)

    def tried(self, atlas, lots):
        legs = atlas.legs()
        if len(lots) == len(legs):
            word, thread = spread(atlas, lots)
            return ("thread", thread) if word == "bad" else ("thread", ((atlas.names or ("a",))[0], 0, 0))
        name, leg = legs[len(lots)]
        left = [lot for lot in range(8) if atlas.box[lot] > lots.count(lot)]
        return ("case", name, leg, tuple((lot, self.tried(atlas, (*lots, lot))) for lot in left))


if __name__ == "__main__":
    unittest.main()
