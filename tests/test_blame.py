"""Points 30 to 32: whom to leave out, what to ask first, and plans."""

import random
import unittest

from tests import oracle
from tests.samples import FAR, alike, caught, flat, listed, nested, odd_things, spoilt
from wayneedle.atlas import Atlas
from wayneedle.blame import asking, blamed, known_by, question
from wayneedle.errors import NoFit, TooMany
from wayneedle.fits import fits

FACE = ("face", "n")

SWAP = ("swap",)

RIGHT = (6, 0, 0, 0, 0, 0, 0, 0)

OAK, ELM, ASH, HUT, BARE = ("sign", "Oak"), ("sign", "Elm"), ("sign", "Ash"), ("sign", "hut"), ("bare",)

# From Oak to Elm, one step by the letter.
NORTH, SOUTH = (OAK, FACE, ("go", 1), ELM), (OAK, ("face", "s"), ("go", 1), ELM)

# A log that no lot allows.
WRONG = (HUT, BARE)


def cases(seed, many, liars):
    """Boxes and logs of few dealings each."""
    chance = random.Random(seed)
    for _ in range(many):
        box, logs, dealing = oracle.random_case(chance, chance.choice(liars), chance.choice((2, 3, 8)))
        if len(dealing) <= 4 or max(box[3:]) == 0:
            yield box, logs, Atlas(box, list(logs.items()))


class Blamed(unittest.TestCase):
    def asks(self, box, logs, wanted):
        atlas = Atlas(box, logs)
        self.assertTrue(alike(blamed(atlas), wanted), blamed(atlas))
        self.assertTrue(alike(blamed(atlas=atlas), wanted))
        self.assertEqual(oracle.blamed(box, dict(logs)), wanted)

    def test_nobody(self):
        self.asks(RIGHT, (("ann", NORTH), ("bob", NORTH)), ((),))
        self.asks(RIGHT, (), ((),))
        self.asks((0,) * 8, (), ((),))
        self.asks((1,) * 8, (("ann", ()),), ((),))

    def test_one_walker(self):
        self.asks(RIGHT, (("ann", NORTH), ("bob", WRONG), ("cy", NORTH)), (("bob",),))
        self.asks(RIGHT, (("ann", WRONG),), (("ann",),))

    def test_several_sets_of_one(self):
        self.asks(RIGHT, (("ann", NORTH), ("bob", SOUTH)), (("ann",), ("bob",)))
        self.asks(RIGHT, (("dora", SOUTH), ("cy", ()), ("bob", NORTH)), (("bob",), ("dora",)))

    def test_sets_of_one_and_of_two(self):
        # Without dora the others agree; without cy and bob dora is right.
        self.asks(RIGHT, (("bob", NORTH), ("cy", NORTH), ("dora", SOUTH)), (("dora",), ("bob", "cy")))
        self.asks(RIGHT, (("ann", SOUTH), ("bob", NORTH), ("cy", NORTH)), (("ann",), ("bob", "cy")))

    def test_sets_of_two(self):
        self.asks(RIGHT, (("ann", WRONG), ("bob", NORTH), ("cy", WRONG)), (("ann", "cy"),))
        self.asks(RIGHT, (("ann", NORTH), ("bob", SOUTH), ("cy", WRONG), ("dora", ())), (("ann", "cy"), ("bob", "cy")))
        self.asks(RIGHT, (("ann", NORTH), ("bob", SOUTH), ("cy", NORTH), ("dora", SOUTH)), (("ann", "cy"), ("bob", "dora")))
        east = (OAK, ("face", "e"), ("go", 1), ELM)
        self.asks(RIGHT, (("ann", NORTH), ("bob", SOUTH), ("cy", east)), (("ann", "bob"), ("ann", "cy"), ("bob", "cy")))

    def test_all(self):
        self.asks(RIGHT, (("ann", WRONG), ("bob", WRONG), ("cy", WRONG)), (("ann", "bob", "cy"),))
        self.asks((0,) * 8, (("ann", ()), ("bob", NORTH)), (("ann", "bob"),))

    def test_too_few_compasses(self):
        self.asks((1, 0, 0, 0, 0, 0, 0, 0), (("ann", ()), ("bob", ())), (("ann",), ("bob",)))
        self.asks((1, 0, 0, 1, 0, 0, 0, 0), (("ann", ()), ("bob", (SWAP,)), ("cy", ())), (("bob",), ("ann", "cy")))
        self.asks((1, 0, 0, 0, 0, 0, 0, 0), (("ann", (SWAP,)), ("bob", ())), (("ann",),))
        self.asks((2, 0, 0, 0, 0, 0, 0, 0), [(name, ()) for name in ("a", "b", "c")], (("a",), ("b",), ("c",)))

    def test_names_compare_as_texts(self):
        self.asks((1, 0, 0, 0, 0, 0, 0, 0), (("b", ()), ("ab", ()), ("a", ())), (("a", "ab"), ("a", "b"), ("ab", "b")))

    def test_five_walkers(self):
        names = ("ann", "bob", "cy", "dora", "eve")
        logs = [(name, NORTH if at % 2 else SOUTH) for at, name in enumerate(names)]
        self.asks(RIGHT, logs, (("bob", "dora"), ("ann", "cy", "eve")))

    def test_at_random(self):
        sizes = set()
        for box, logs, atlas in cases(51, 250, (0, 1, 2, 4)):
            wanted = oracle.blamed(box, logs)
            before = flat((atlas.box, atlas.names, atlas.logs))
            self.assertTrue(alike(blamed(atlas), wanted), (box, logs))
            self.assertEqual(flat((atlas.box, atlas.names, atlas.logs)), before)
            sizes |= {len(names) for names in wanted}
            for names in blamed(atlas):
                left = atlas
                for name in names:
                    self.assertEqual(fits(left, most=1), ())
                    left = left.without(name)
                self.assertNotEqual(fits(left, most=1), ())
        self.assertLessEqual({0, 1, 2}, sizes)


class Question(unittest.TestCase):
    def asks(self, box, logs, wanted):
        atlas = Atlas(box, logs)
        self.assertTrue(alike(question(atlas), wanted), question(atlas))
        self.assertTrue(alike(question(atlas=atlas), wanted))

    def test_fewer_than_two_fit(self):
        self.asks(RIGHT, (), None)
        self.asks((0,) * 8, (("ann", ()),), None)
        self.asks(RIGHT, (("ann", NORTH), ("bob", NORTH)), None)
        self.asks(RIGHT, (("ann", NORTH), ("bob", SOUTH)), None)

    def test_two_fit(self):
        self.asks((1, 1, 0, 0, 0, 0, 0, 0), (("ann", NORTH),), ("ann", 0, 1))
        self.asks((1, 1, 0, 0, 0, 0, 0, 0), (("bob", ()), ("ann", ())), ("ann", 0, 1))

    def test_the_leg_that_parts_them_best(self):
        # Of ann and bob the lots are 0 and 4 or 4 and 0; of cy each of the others.
        self.asks((1, 0, 0, 0, 2, 0, 0, 0), (("ann", (SWAP,)),), ("ann", 0, 2))
        self.asks((3, 1, 0, 0, 0, 0, 0, 0), (("ann", ()), ("bob", ())), ("ann", 0, 2))
        logs = (("ann", NORTH), ("bob", NORTH), ("cy", ()))
        self.assertEqual(fits(Atlas((1, 1, 0, 0, 1, 1, 0, 0), logs)), (
            (0, 4, 1), (0, 4, 5), (1, 5, 0), (1, 5, 4), (4, 0, 1), (4, 0, 5), (5, 1, 0), (5, 1, 4)))
        self.asks((1, 1, 0, 0, 1, 1, 0, 0), logs, ("ann", 0, 2))

    def test_not_the_first_leg(self):
        logs = (("ann", NORTH), ("bob", (OAK, FACE, ("go", 1), ELM, SWAP)))
        atlas = Atlas((2, 1, 1, 0, 0, 0, 0, 0), logs)
        self.assertEqual(fits(atlas), ((0, 0, 1), (0, 0, 2)))
        self.asks(atlas.box, logs, ("bob", 1, 1))
        logs = (("ann", (SWAP, OAK)), ("bob", ()))
        self.asks((1, 1, 1, 0, 0, 0, 0, 0), logs, ("ann", 0, 2))

    def test_the_first_of_several(self):
        self.asks((1, 1, 1, 0, 0, 0, 0, 0), (("ann", ()), ("bob", ()), ("cy", ())), ("ann", 0, 2))
        self.asks((2, 0, 0, 0, 2, 0, 0, 0), (("bob", ()), ("ann", (SWAP,))), ("ann", 0, 3))

    def test_at_random(self):
        found = {True: 0, False: 0}
        for box, logs, atlas in cases(52, 200, (0, 0, 1)):
            wanted = oracle.question(box, logs)
            found[wanted is None] += 1
            self.assertTrue(alike(question(atlas), wanted), (box, logs))
        self.assertGreater(min(found.values()), 30)


class Asking(unittest.TestCase):
    def asks(self, atlas, depth):
        """The plan that is told, tried."""
        plan = asking(atlas)
        self.assertTrue(alike(plan, asking(atlas=atlas)))
        self.assertNotIn(list, [kind for kind, _ in flat(plan)])
        self.assertIs(known_by(atlas, plan), True)
        self.assertIs(known_by(atlas, listed(plan)), True)
        self.assertEqual(oracle.depth_of(list(atlas.legs()), list(fits(atlas)), plan), depth)
        return plan

    def test_known_at_once(self):
        self.assertTrue(alike(self.asks(Atlas(RIGHT), 0), ("known", ())))
        self.assertTrue(alike(self.asks(Atlas(RIGHT, (("ann", NORTH), ("bob", ()))), 0), ("known", (0, 0))))

    def test_one_look(self):
        atlas = Atlas((1, 1, 0, 0, 0, 0, 0, 0), (("ann", NORTH),))
        wanted = ("look", "ann", 0, ((0, ("known", (0,))), (1, ("known", (1,)))))
        self.assertTrue(alike(self.asks(atlas, 1), wanted))
        self.asks(Atlas((1,) * 8, (("ann", NORTH),)), 1)
        self.asks(Atlas((1, 1, 0, 0, 0, 0, 0, 0), (("ann", NORTH), ("bob", ()))), 1)

    def test_several_looks(self):
        self.asks(Atlas((1, 1, 1, 0, 0, 0, 0, 0), (("ann", ()), ("bob", ()))), 2)
        self.asks(Atlas((1, 0, 0, 0, 0, 0, 0, 3), (("ann", (SWAP,)), ("bob", (SWAP,)))), 3)
        self.asks(Atlas((2, 2, 0, 0, 0, 0, 0, 0), (("ann", ()), ("bob", (SWAP,)))), 3)

    def test_the_least_depth_is_not_by_the_first_leg(self):
        # Only cy's lot tells all at one look.
        logs = (("ann", NORTH), ("bob", (OAK, FACE, ("go", 1), ELM)), ("cy", ()))
        atlas = Atlas((2, 1, 1, 1, 0, 0, 0, 0), logs)
        self.assertEqual(len(fits(atlas)), 3)
        self.assertEqual(self.asks(atlas, 1)[1:3], ("cy", 0))

    def test_the_first_leg_that_tells_something_may_tell_too_little(self):
        east, away = (OAK, ("face", "e"), ("go", 1), ELM), (OAK, ("face", "e"), ("spy", 1, "Yew"))
        corner, turn = (*NORTH, ("face", "e"), ("go", 1), ASH), (*NORTH, ("right",), ("go", 1), ASH)
        # Behind each box and its logs: how deep the plan is that looks into the first leg that parts the dealings; the least.
        for box, logs, many, deep, depth in (
            ((0, 1, 1, 0, 0, 0, 0, 1), ((), corner, east), 3, 2, 1),
            ((1, 1, 0, 2, 0, 0, 1, 0), (away, corner, east, SOUTH), 4, 3, 1),
            ((1, 1, 1, 0, 0, 0, 1, 0), (turn, SOUTH, away), 6, 3, 2),
            ((1, 0, 1, 0, 0, 0, 1, 1), (away, (), SOUTH, east), 4, 3, 2),
            ((1, 2, 1, 0, 1, 0, 0, 0), (SOUTH, corner, away, (SWAP,)), 8, 4, 3),
            ((3, 1, 0, 0, 1, 0, 0, 0), ((), east, (SWAP,), SOUTH), 5, 4, 3),
        ):
            atlas = Atlas(box, list(zip(("ann", "bob", "cy", "dora"), logs)))
            self.assertEqual(len(fits(atlas)), many)
            self.assertEqual(self.depth_by_first(len(atlas), fits(atlas)), deep)
            self.assertEqual(oracle.least_depth(len(atlas), list(fits(atlas))), depth)
            self.asks(atlas, depth)

    def depth_by_first(self, legs, left):
        if len(left) == 1:
            return 0
        at = next(at for at in range(legs) if len({dealing[at] for dealing in left}) > 1)
        parts = [[dealing for dealing in left if dealing[at] == lot] for lot in range(8)]
        return 1 + max(self.depth_by_first(legs, part) for part in parts if part)

    def test_eight_and_nine(self):
        self.asks(Atlas((1,) * 8, (("ann", ()),)), 1)
        atlas = Atlas((3, 2, 2, 0, 0, 0, 0, 0), (("ann", ()), ("bob", ())))
        self.assertEqual(len(fits(atlas)), 9)
        self.assertTrue(alike(vars(caught(TooMany, asking, atlas))["many"], 9))
        atlas = Atlas((2, 1, 2, 0, 0, 0, 0, 0), (("ann", ()), ("bob", ())))
        self.assertEqual(len(fits(atlas)), 8)
        self.asks(atlas, 2)
        atlas = Atlas((2,) * 8, (("ann", ()), ("bob", ())))
        self.assertTrue(alike(caught(TooMany, asking, atlas=atlas).many, 64))

    def test_no_fit(self):
        for atlas in (Atlas((0,) * 8, (("ann", ()),)), Atlas(RIGHT, (("ann", NORTH), ("bob", SOUTH)))):
            self.assertEqual(vars(caught(NoFit, asking, atlas)), {})

    def test_at_random(self):
        depths = set()
        for box, logs, atlas in cases(53, 300, (0, 0, 1)):
            found = list(fits(atlas))
            if 0 < len(found) <= 8:
                depth = oracle.least_depth(len(atlas), found)
                self.asks(atlas, depth)
                depths.add(depth)
        self.assertLessEqual({0, 1, 2, 3}, depths)


class KnownBy(unittest.TestCase):
    def setUp(self):
        self.atlas = Atlas((1, 1, 1, 0, 0, 0, 0, 0), (("ann", NORTH), ("bob", SOUTH), ("cy", ())))
        self.found = [(0, 2, 1), (2, 0, 1)]

    def asks(self, plan, wanted):
        self.assertIs(known_by(self.atlas, plan), wanted, plan)
        given = listed(plan)
        self.assertIs(known_by(plan=given, atlas=self.atlas), wanted, plan)
        self.assertTrue(alike(given, listed(plan)))
        depth = oracle.depth_of(list(self.atlas.legs()), self.found, plan)
        self.assertIs(depth is not None, wanted, plan)

    def plan(self, first=("known", (0, 2, 1)), second=("known", (2, 0, 1)), leg=("ann", 0), lots=(0, 2)):
        """A right one where all is left as it is."""
        return ("look", *leg, ((lots[0], first), (lots[1], second)))

    def test_what_fits(self):
        self.assertEqual(list(fits(self.atlas)), self.found)

    def test_right_plans(self):
        self.asks(self.plan(), True)
        self.asks(self.plan(leg=("bob", 0), first=("known", (2, 0, 1)), second=("known", (0, 2, 1))), True)

    def test_deeper_than_need_be(self):
        self.asks(("look", "cy", 0, ((1, self.plan()),)), True)
        self.asks(self.plan(first=("look", "bob", 0, ((2, ("known", (0, 2, 1))),))), True)
        again = ("look", "ann", 0, ((0, ("known", (0, 2, 1))),))
        self.asks(self.plan(first=again), True)
        deep = self.plan()
        for _ in range(30):
            deep = ("look", "cy", 0, ((1, deep),))
        self.asks(deep, True)
        for _ in range(70):
            deep = ("look", "cy", 0, ((1, deep),))
        self.asks(deep, True)
        for _ in range(3000):
            deep = ("look", "cy", 0, ((1, deep),))
        self.assertIs(known_by(self.atlas, deep), True)

    def test_known_too_soon_or_wrong(self):
        for dealing in self.found:
            self.asks(("known", dealing), False)
        self.asks(self.plan(first=("known", (2, 0, 1))), False)
        self.asks(self.plan(second=("known", (0, 2, 1))), False)
        for dealing in ((), (0,), (0, 2), (0, 2, 1, 1), (0, 2, 0), (0, 1, 2), (0, 2, True), (False, 2, 1), (0, "2", 1), None,
                        0, "021", ((0, 2, 1),), (0, 2, None), (0, 2, 8), (0, 2, -1), (0, (2,), 1)):
            self.asks(self.plan(first=("known", dealing)), False)

    def test_truths_are_no_lots(self):
        self.atlas, self.found = Atlas((1, 1, 0, 0, 0, 0, 0, 0), (("ann", ()),)), [(0,), (1,)]
        known = [("known", (0,)), ("known", (1,))]
        self.asks(("look", "ann", 0, ((0, known[0]), (1, known[1]))), True)
        self.asks(("look", "ann", 0, ((False, known[0]), (1, known[1]))), False)
        self.asks(("look", "ann", 0, ((0, known[0]), (True, known[1]))), False)
        self.asks(("look", "ann", 0, ((0, ("known", (False,))), (1, known[1]))), False)
        self.asks(("look", "ann", 0, ((0, known[0]), (1, ("known", (True,))))), False)
        self.asks(("look", "ann", False, ((0, known[0]), (1, known[1]))), False)
        self.asks(("look", "ann", 1, ((0, known[0]), (1, known[1]))), False)

    def test_legs_that_are_none(self):
        for leg in (("ann", 1), ("ann", -1), ("ann", False), ("ann", None), ("ann", "0"), ("zoe", 0), ("", 0), (0, "ann"),
                    (None, 0), (("ann",), 0), ("ann", FAR), (["ann", 0], 0)):
            self.asks(self.plan(leg=leg), False)
        self.asks(self.plan(leg=("bob", 0)), False)
        self.asks(self.plan(leg=("cy", 0)), False)

    def test_branches(self):
        first, second = self.plan()[3]
        for branches in ((), (first,), (second,), (second, first), (first, first, second), (first, second, second),
                         (first, (1, ("known", (1, 0, 2))), second), (first, (1, second[1])), (first, second, (3, second[1])),
                         ((-1, first[1]), second), (first, (8, second[1])), None, "", 0, (first, second[:1]), (first, (*second, 0)),
                         (first, None), (first, ()), (first, 2), ((("0",), first[1]), second)):
            self.asks(("look", "ann", 0, branches), False)
        # A look into what all deal alike has one branch alone.
        self.asks(("look", "cy", 0, ((0, self.plan()), (1, self.plan()))), False)
        self.asks(("look", "cy", 0, ()), False)

    def test_things_of_any_kind(self):
        whole = self.plan()
        for thing in odd_things() + ["", "known", "look", "ann", 0, 1, nested(90), (nested(90),), ("known",), ("look",),
                                     ("known", ()), ("look", "ann", 0), ("look", "ann", 0, ()), ("known", (0, 2, 1), ()), "~" * 4000]:
            self.asks(thing, False)
            self.asks(self.plan(first=thing), False)
            self.asks(self.plan(first=("known", thing)), False)
            self.asks(("look", "ann", 0, thing), False)
            self.asks(("look", "ann", thing, whole[3]), flat(thing) == flat(0))
            self.asks(("look", thing, 0, whole[3]), thing == "ann")
            self.asks((thing, *whole[1:]), thing == "look")
            self.asks((thing, (0, 2, 1)), False)
            self.asks((*whole, thing), False)
            self.asks(("look", "ann", 0, (*whole[3], thing)), False)
            self.asks(self.plan(lots=(thing, 2)), flat(thing) == flat(0))

    def test_where_no_dealing_fits(self):
        self.atlas, self.found = Atlas(RIGHT, (("ann", NORTH), ("bob", SOUTH))), []
        for plan in (("look", "ann", 0, ()), ("look", "bob", 0, ()), ("known", ()), ("known", (0, 0)),
                     ("look", "ann", 0, ((0, ("known", (0, 0))),)), (), None):
            self.asks(plan, False)

    def test_where_one_dealing_fits(self):
        self.atlas, self.found = Atlas(RIGHT, (("ann", NORTH),)), [(0,)]
        self.asks(("known", (0,)), True)
        self.asks(("look", "ann", 0, ((0, ("known", (0,))),)), True)
        self.asks(("look", "ann", 0, ()), False)
        self.atlas, self.found = Atlas(RIGHT), [()]
        self.asks(("known", ()), True)
        self.asks(("known", (0,)), False)
        self.asks(("look", "ann", 0, ()), False)

    def test_more_than_eight_dealings(self):
        self.atlas = Atlas((2, 2, 2, 0, 0, 0, 0, 0), (("ann", ()), ("bob", ())))
        self.found = list(fits(self.atlas))
        self.assertEqual(len(self.found), 9)
        plan = ("look", "bob", 0, tuple((lot, ("look", "ann", 0, tuple(
            (other, ("known", (other, lot))) for other in range(3)))) for lot in range(3)))
        self.asks(plan, True)

    def test_plans_spoilt_at_random(self):
        chance = random.Random(54)
        verdicts = {True: 0, False: 0}
        for box, logs, atlas in cases(55, 150, (0,)):
            self.atlas, self.found = atlas, list(fits(atlas))
            if len(self.found) <= 8:
                plan = asking(atlas)
                for _ in range(6):
                    other = spoilt(chance, plan)
                    wanted = oracle.depth_of(list(atlas.legs()), self.found, other) is not None
                    verdicts[wanted] += 1
                    self.asks(other, wanted)
        self.assertGreater(verdicts[False], 200)
        self.assertGreater(verdicts[True], 10)


if __name__ == "__main__":
    unittest.main()
