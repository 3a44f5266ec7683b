"""Atlases without walkers, or whose walkers wrote nothing, asked everything that points 13 to 32 tell."""

import unittest

from tests.samples import alike, caught
from wayneedle.atlas import Atlas, groups, is_dealt, told
from wayneedle.bars import bars, is_bad, settled
from wayneedle.blame import asking, blamed, known_by, question
from wayneedle.errors import NoDealing, NoLeg, NoSign, NoWalker, TooMany
from wayneedle.fits import fits, spread
from wayneedle.maps import charted, drawn
from wayneedle.sure import apart, lots_left, shows, surely
from wayneedle.ways import leads, road, sure_way

BOXES = ((0,) * 8, (1, 0, 0, 0, 0, 0, 0, 0), (1,) * 8, (8, 0, 0, 0, 0, 0, 0, 0))

PAPERS = ((), None, "", ("thread", ()), ("thread", (("ann", 0, 0),)), ("so", (("ann", 0, 0),)), ("case", "ann", 0), 5)


class WithoutWalkers(unittest.TestCase):
    def test_all_that_is_told(self):
        for box in BOXES:
            atlas = Atlas(box)
            for call, args, wanted in (
                (groups, (), ()), (is_dealt, ((),), True), (is_dealt, ((0,),), False), (is_dealt, (None,), False),
                (spread, ((),), ("spread", ())), (fits, (), ((),)), (is_bad, ((), ()), False), (is_bad, ((), (("ann", 0, 0),)), False),
                (settled, (), ("fits", ())), (lots_left, (), ()), (blamed, (), ((),)), (question, (), None), (asking, (), ("known", ())),
                (known_by, (("known", ()),), True), (known_by, (("known", (0,)),), False), (known_by, (("look", "ann", 0, ()),), False),
            ):
                self.assertTrue(alike(call(atlas, *args), wanted), call)
            self.assertTrue(alike((atlas.names, atlas.logs, atlas.legs(), len(atlas)), ((), (), (), 0)))
            self.assertTrue(alike((fits(atlas, most=0), fits(atlas, most=1)), ((), ((),))))
            for paper in PAPERS + (("case", "ann", 0, ()),):
                self.assertIs(bars(atlas, paper), False)
                self.assertIs(shows(atlas, "Oak", "Oak", (0, 0), paper), False)

    def test_all_that_is_refused(self):
        for box in BOXES:
            atlas = Atlas(box)
            self.assertTrue(atlas == Atlas(box).with_log("ann", ()).without("ann"))
            for call in (atlas.log, atlas.without):
                self.assertEqual(caught(NoWalker, call, "ann").name, "ann")
            for call in (told, charted, drawn):
                self.assertEqual(caught(NoDealing, call, atlas, (0,), "ann").at, 0)
                self.assertEqual(caught(NoWalker, call, atlas, (), "ann").name, "ann")
            for call in (apart, road):
                self.assertEqual(caught(NoDealing, call, atlas, (0,), "Oak", "Elm").at, 0)
                self.assertEqual(caught(NoSign, call, atlas, (), "Oak", "Elm").sign, "Oak")
            self.assertEqual(caught(NoSign, surely, atlas, "Oak", "Elm").sign, "Oak")
            self.assertEqual(caught(NoWalker, leads, atlas, "ann", 0, "Oak", "Elm", ()).name, "ann")
            self.assertEqual(caught(NoWalker, sure_way, atlas, "ann", 0, "Oak", "Elm").name, "ann")
            self.assertEqual(caught(NoDealing, is_bad, atlas, (0,), ()).at, 0)
            self.assertEqual(caught(NoDealing, spread, atlas, (0,)).at, 0)


class NothingWritten(unittest.TestCase):
    def setUp(self):
        self.atlas = Atlas((1, 0, 1, 0, 0, 0, 0, 0), (("ann", ()), ("bob", ())))

    def test_all_that_is_told(self):
        known = [("known", (0, 2)), ("known", (2, 0))]
        plan = ("look", "ann", 0, ((0, known[0]), (2, known[1])))
        for call, args, wanted in (
            (groups, (), (("ann",), ("bob",))), (is_dealt, ((0, 2),), True), (is_dealt, ((0, 0),), False), (told, ((0, 2), "ann"), ()),
            (spread, ((2, 0),), ("spread", (("ann", (0, 0)), ("bob", (0, 0))))), (fits, (), ((0, 2), (2, 0))),
            (is_bad, ((0, 2), (("ann", 0, 0),)), False), (settled, (), ("fits", (0, 2))), (lots_left, (), ((0, 2), (0, 2))),
            (charted, ((0, 2), "ann"), ((), (), (), ())), (drawn, ((0, 2), "bob"), "?"), (blamed, (), ((),)),
            (question, (), ("ann", 0, 1)), (asking, (), plan), (known_by, (plan,), True), (known_by, (known[0],), False),
        ):
            self.assertTrue(alike(call(self.atlas, *args), wanted), call)
        for paper in PAPERS + (("case", "ann", 0, ()),):
            self.assertIs(bars(self.atlas, paper), False)
            self.assertIs(shows(self.atlas, "Oak", "Oak", (0, 0), paper), False)

    def test_all_that_is_refused(self):
        for call in (apart, road):
            self.assertEqual(caught(NoSign, call, self.atlas, (0, 2), "Oak", "Elm").sign, "Oak")
        self.assertEqual(caught(NoSign, surely, self.atlas, "Oak", "Elm").sign, "Oak")
        for call, more in ((leads, ((),)), (sure_way, ())):
            self.assertEqual(caught(NoWalker, call, self.atlas, "cy", 0, "Oak", "Elm", *more).name, "cy")
            self.assertEqual(caught(NoLeg, call, self.atlas, "ann", 1, "Oak", "Elm", *more).leg, 1)
            self.assertEqual(caught(NoSign, call, self.atlas, "ann", 0, "Oak", "Elm", *more).sign, "Oak")
        self.assertEqual(caught(TooMany, asking, Atlas((2,) * 8, (("ann", ()), ("bob", ())))).many, 64)

    def test_too_few_compasses(self):
        atlas = Atlas((1, 0, 0, 0, 0, 0, 0, 0), (("ann", ()), ("bob", ())))
        word, paper = settled(atlas)
        self.assertEqual(word, "barred")
        self.assertIs(bars(atlas, paper), True)
        self.assertTrue(alike((fits(atlas), lots_left(atlas), question(atlas)), ((), ((), ()), None)))
        self.assertTrue(alike(blamed(atlas), (("ann",), ("bob",))))


if __name__ == "__main__":
    unittest.main()
