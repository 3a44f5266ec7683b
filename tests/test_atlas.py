"""Points 13 and 14: atlases, dealings, what they tell, and groups."""

import random
import unittest

from tests import oracle
from tests.samples import FAR, alike, caught, flat, listed, nested, no_lots, odd_things
from wayneedle.atlas import Atlas, groups, is_dealt, told
from wayneedle.errors import BadBox, BadLog, NoDealing, NoName, NoWalker, Twice

BOX = (2, 1, 0, 1, 0, 0, 3, 0)

FACE = ("face", "n")

SWAP = ("swap",)

ANN = (FACE, ("go", 2), ("sign", "Oak"))

BOB = (("sign", "Oak"), FACE, SWAP, ("go", 1), SWAP)

CY = ()

LOGS = (("ann", ANN), ("bob", BOB), ("cy", CY))

LEGS = (("ann", 0), ("bob", 0), ("bob", 1), ("bob", 2), ("cy", 0))


def no_names():
    """Things that are no names, made anew at each call."""
    return odd_things() + [
        0, 1, 7, "", " ", "Ann", "aNn", "ann ", " ann", "an n", "abcdefghi", "a1", "1", "a-", "~" * 4000, "ann\n",
        ("ann",), ["ann"], [("ann", "bob")], nested(400),
    ]


def no_numbers():
    """Things that are no whole numbers from 0 on, made anew at each call."""
    return [-1, -2, -FAR, True, False, None, "", "0", "1", "n", (), (0,), [], [1], ((), []), nested(400), "~" * 4000]


def alike_atlases(one, other):
    """Whether the fields of the two are alike, tuples throughout."""
    return alike((one.box, one.names, one.logs), (other.box, other.names, other.logs))


class Boxes(unittest.TestCase):
    def test_eight_numbers(self):
        for box in ((0,) * 8, (1,) * 8, BOX, (FAR,) * 8, (0, 0, 0, 0, 0, 0, 0, 8), (10,) * 8):
            self.assertTrue(alike(Atlas(box).box, box))
            self.assertTrue(alike(Atlas(list(box)).box, box))
            self.assertTrue(alike(Atlas(box=box, logs=()).box, box))

    def test_a_list_that_is_altered_later(self):
        given = list(BOX)
        atlas = Atlas(given)
        self.assertEqual(given, list(BOX))
        given[0] = 5
        given.append(1)
        self.assertTrue(alike(atlas.box, BOX))

    def refuses(self, box, at, logs=()):
        for given in (tuple(box), list(box)):
            self.assertTrue(alike(caught(BadBox, Atlas, given, logs).at, at), at)
            self.assertTrue(alike(caught(BadBox, Atlas, logs=logs, box=given).at, at), at)
            self.assertTrue(alike(caught(BadBox, Atlas, given).at, at), at)

    def test_more_and_fewer_things(self):
        for many in [*range(8), 9, 10, 16, 100]:
            self.refuses((1,) * many, many)
            self.refuses((None,) * many, many)
            self.refuses(([],) * many, many)
        self.refuses((-1, True, [], "a", (), None, 0), 7)
        self.refuses((-1, True, [], "a", (), None, 0, 1, 2), 9)

    def test_things_that_are_no_numbers(self):
        for thing in no_numbers():
            for at in range(8):
                box = [0, 1, 2, 3, 4, 5, 6, FAR]
                box[at] = thing
                self.refuses(box, at)
        self.refuses((0, 0, None, -1, True, 0, 0, ""), 2)
        self.refuses((-1,) * 8, 0)
        self.refuses((0, 0, 0, 0, 0, 0, 0, True), 7)

    def test_a_bad_box_goes_ahead_of_all_else(self):
        for logs in ((("", ()),), (("a", ()), ("a", ())), (("a", (None,)),), ((5, (5,)),)):
            self.refuses((), 0, logs)
            self.refuses((0, -1, 0, 0, 0, 0, 0, 0), 1, logs)


class Made(unittest.TestCase):
    def test_without_logs(self):
        for atlas in (Atlas(BOX), Atlas(BOX, ()), Atlas(BOX, []), Atlas(logs=[], box=BOX)):
            self.assertTrue(alike((atlas.box, atlas.names, atlas.logs, atlas.legs()), (BOX, (), (), ())))
            self.assertTrue(alike(len(atlas), 0))

    def test_one_log(self):
        atlas = Atlas(BOX, (("ann", ANN),))
        self.assertTrue(alike((atlas.names, atlas.logs), (("ann",), (ANN,))))
        self.assertTrue(alike((atlas.legs(), len(atlas)), ((("ann", 0),), 1)))

    def test_names_in_any_order(self):
        chance = random.Random(3)
        pairs = [("eve", CY), ("ann", ANN), ("b", ()), ("bob", BOB), ("anna", (FACE,))]
        for _ in range(20):
            chance.shuffle(pairs)
            atlas = Atlas(BOX, tuple(pairs))
            self.assertTrue(alike(atlas.names, ("ann", "anna", "b", "bob", "eve")))
            self.assertTrue(alike(atlas.logs, (ANN, (FACE,), (), BOB, CY)))
            self.assertTrue(alike(atlas.legs(), (
                ("ann", 0), ("anna", 0), ("b", 0), ("bob", 0), ("bob", 1), ("bob", 2), ("eve", 0))))
            self.assertTrue(alike(len(atlas), 7))

    def test_lists_throughout_which_are_altered_later(self):
        given = listed(LOGS)
        atlas = Atlas(list(BOX), given)
        self.assertTrue(alike(given, listed(LOGS)))
        given[0][1][1].append(9)
        given[0][1].append(["left"])
        given[1][0] = "zoe"
        given[1][1].clear()
        given.append(["dora", []])
        self.assertTrue(alike_atlases(atlas, Atlas(BOX, LOGS)))
        self.assertTrue(alike((atlas.names, atlas.logs), (("ann", "bob", "cy"), (ANN, BOB, CY))))

    def test_more_walkers_and_compasses_than_promised(self):
        names = ["a" * many for many in range(1, 9)]
        atlas = Atlas((5,) * 8, [(name, (SWAP, SWAP)) for name in names])
        self.assertEqual((atlas.names, len(atlas)), (tuple(names), 24))

    def test_what_was_told_may_be_handed_in_again(self):
        atlas = Atlas(BOX, LOGS)
        again = Atlas(atlas.box, tuple(zip(atlas.names, atlas.logs)))
        self.assertTrue(atlas == again and alike_atlases(atlas, again))

    def test_methods_stand_in_the_class_itself(self):
        for word in ("__init__", "log", "legs", "with_log", "without", "__eq__", "__len__"):
            self.assertIn(word, vars(Atlas))


class Refused(unittest.TestCase):
    def refuses(self, error, logs, fields):
        for given in (logs, listed(logs)):
            why = caught(error, Atlas, BOX, given)
            self.assertEqual(sorted(vars(why)), sorted(fields))
            for field, thing in fields.items():
                # A list that was handed in for a tuple is told as a list.
                self.assertTrue(alike(listed(getattr(why, field)), listed(thing)), field)

    def test_names_that_are_none(self):
        for thing in no_names():
            self.refuses(NoName, ((thing, ANN),), {"name": thing})
            self.refuses(NoName, (("ann", ANN), (thing, ANN), ("bob", BOB)), {"name": thing})
            why = caught(NoName, Atlas, BOX, ((thing, ()),))
            self.assertTrue(alike(why.name, thing))

    def test_a_name_that_is_altered_later(self):
        name = ["ann", [1]]
        why = caught(NoName, Atlas, BOX, ((name, ()),))
        name[1].append(2)
        self.assertTrue(alike(why.name, ["ann", [1]]))

    def test_twice(self):
        self.refuses(Twice, (("ann", ANN), ("ann", ANN)), {"name": "ann"})
        self.refuses(Twice, (("ann", ANN), ("bob", BOB), ("cy", CY), ("bob", CY)), {"name": "bob"})

    def test_a_log_that_is_none(self):
        for log, at in (
            ((None,), 0), ((FACE, None), 1), ((("go", 1),), 0), ((FACE, ("go", 0)), 1), ((FACE, ("go", True)), 1),
            ((FACE, ("go", 3), ("sign", "OAK"), ()), 2), ((("bare",), SWAP, ("left",), FACE), 2), ((FACE, nested(300)), 1),
            ((FACE, ("spy", 3, [1])), 1), ((("face", ["n"]),), 0), (([["face"], "n"],), 0), (("face",), 0), ((1, 2), 0),
        ):
            self.refuses(BadLog, (("ann", log),), {"name": "ann", "at": at})
            self.refuses(BadLog, (("zoe", ANN), ("bob", log), ("cy", CY)), {"name": "bob", "at": at})

    def test_which_comes_first_in_a_pair(self):
        self.refuses(NoName, (("Ann", (None,)),), {"name": "Ann"})
        self.refuses(Twice, (("ann", ()), ("ann", (None,))), {"name": "ann"})
        self.refuses(NoName, (("", ()), ("", ())), {"name": ""})

    def test_which_pair_comes_first(self):
        self.refuses(BadLog, (("zoe", (None,)), ("", ()), ("zoe", ())), {"name": "zoe", "at": 0})
        self.refuses(NoName, (("zoe", ()), (7, ()), ("zoe", ()), ("ann", (None,))), {"name": 7})
        self.refuses(Twice, (("zoe", ()), ("zoe", ()), ("", ()), ("ann", (None,))), {"name": "zoe"})
        self.refuses(BadLog, (("b", (FACE, None)), ("a", (None,))), {"name": "b", "at": 1})


class Methods(unittest.TestCase):
    def setUp(self):
        self.atlas = Atlas(BOX, LOGS)
        self.before = flat((self.atlas.box, self.atlas.names, self.atlas.logs))

    def tearDown(self):
        # An atlas is never altered, whatever is asked of it.
        self.assertEqual(flat((self.atlas.box, self.atlas.names, self.atlas.logs)), self.before)

    def test_log(self):
        for name, log in LOGS:
            self.assertTrue(alike(self.atlas.log(name), log))
            self.assertTrue(alike(self.atlas.log(name=name), log))

    def test_no_walker(self):
        for thing in no_names() + ["dora", "an", "annn", "bo"]:
            for call in (self.atlas.log, self.atlas.without):
                self.assertTrue(alike(caught(NoWalker, call, thing).name, thing))
                self.assertTrue(alike(caught(NoWalker, call, name=thing).name, thing))
        for call in (Atlas(BOX).log, Atlas(BOX).without):
            self.assertEqual(caught(NoWalker, call, "ann").name, "ann")

    def test_a_name_refused_that_is_altered_later(self):
        for error, call, more in (
            (NoWalker, self.atlas.log, ()), (NoWalker, self.atlas.without, ()), (NoName, self.atlas.with_log, ((),)),
        ):
            inner = []
            why = caught(error, call, nested(150, inner), *more)
            inner.append(1)
            self.assertTrue(alike(why.name, nested(150, [])))

    def test_legs_and_len(self):
        self.assertTrue(alike(self.atlas.legs(), LEGS))
        self.assertTrue(alike(len(self.atlas), 5))
        self.assertTrue(alike(self.atlas.legs(), LEGS))

    def test_with_a_new_name(self):
        other = self.atlas.with_log("bert", (SWAP, FACE))
        self.assertIsInstance(other, Atlas)
        self.assertTrue(alike_atlases(other, Atlas(BOX, (*LOGS, ("bert", (SWAP, FACE))))))
        self.assertEqual((other.names, len(other)), (("ann", "bert", "bob", "cy"), 7))
        self.assertTrue(alike_atlases(Atlas(BOX).with_log("ann", ()), Atlas(BOX, (("ann", ()),))))

    def test_with_a_name_that_is_there(self):
        other = self.atlas.with_log(log=[["face", "e"]], name="bob")
        self.assertTrue(alike_atlases(other, Atlas(BOX, (("ann", ANN), ("bob", (("face", "e"),)), ("cy", CY)))))
        self.assertEqual(len(other), 3)
        self.assertTrue(self.atlas.with_log("bob", BOB) == self.atlas)

    def test_with_lists_that_are_altered_later(self):
        given = [["face", "n"], ["go", 3]]
        other = self.atlas.with_log("bob", given)
        self.assertTrue(alike(given, [["face", "n"], ["go", 3]]))
        given[1][1] = 4
        given.append(["left"])
        self.assertTrue(alike(other.log("bob"), (FACE, ("go", 3))))

    def test_with_log_refused(self):
        for thing in no_names():
            self.assertTrue(alike(caught(NoName, self.atlas.with_log, thing, ()).name, thing))
            self.assertTrue(alike(caught(NoName, self.atlas.with_log, thing, (None,)).name, thing))
        for name in ("ann", "dora"):
            for log, at in (((None,), 0), ((FACE, ("go", 0)), 1), ((("left",),), 0), ((FACE, SWAP, [[]]), 2)):
                for given in (log, list(log)):
                    why = caught(BadLog, self.atlas.with_log, name, given)
                    self.assertTrue(alike((why.name, why.at), (name, at)))

    def test_without(self):
        for name, _ in LOGS:
            other = self.atlas.without(name)
            self.assertIsInstance(other, Atlas)
            self.assertTrue(alike_atlases(other, Atlas(BOX, [pair for pair in LOGS if pair[0] != name])))
        self.assertTrue(self.atlas.without(name="bob").with_log("bob", BOB) == self.atlas)
        self.assertTrue(self.atlas.without("ann").without("cy").without("bob") == Atlas(BOX))
        self.assertEqual(caught(NoWalker, self.atlas.without("ann").without, "ann").name, "ann")


class Equal(unittest.TestCase):
    def test_like_atlases(self):
        for logs in (LOGS, listed(LOGS), LOGS[::-1], [list(pair) for pair in LOGS]):
            self.assertIs(Atlas(BOX, LOGS) == Atlas(list(BOX), logs), True)
            self.assertIs(Atlas(BOX, LOGS) != Atlas(list(BOX), logs), False)
        self.assertIs(Atlas(BOX) == Atlas(BOX), True)

    def test_unlike_atlases(self):
        atlas = Atlas(BOX, LOGS)
        others = [
            Atlas(BOX), Atlas((2, 1, 0, 1, 0, 0, 3, 1), LOGS), Atlas(BOX, LOGS[:2]), Atlas(BOX, (*LOGS, ("d", ()))),
            Atlas(BOX, (("ann", ANN), ("bob", BOB), ("cyr", CY))), Atlas(BOX, (("ann", BOB), ("bob", ANN), ("cy", CY))),
            Atlas(BOX, (("ann", ANN[:2]), ("bob", BOB), ("cy", CY))),
        ]
        for other in others:
            self.assertIs(atlas == other, False)
            self.assertIs(atlas != other, True)
            self.assertIs(other == atlas, False)

    def test_other_things(self):
        for atlas in (Atlas(BOX, LOGS), Atlas(BOX)):
            for thing in no_names() + [BOX, (BOX, LOGS), (atlas.box, atlas.names, atlas.logs), Atlas, "atlas", object()]:
                self.assertIs(atlas == thing, False)
                self.assertIs(thing == atlas, False)
                self.assertIs(atlas != thing, True)


class Dealt(unittest.TestCase):
    def setUp(self):
        self.atlas = Atlas(BOX, LOGS)

    def asks(self, dealing, wanted):
        self.assertIs(is_dealt(self.atlas, dealing), wanted)
        self.assertIs(is_dealt(dealing=listed(dealing), atlas=self.atlas), wanted)

    def test_let_by(self):
        for dealing in ((0, 0, 1, 3, 6), (6, 6, 6, 0, 0), (6, 3, 6, 1, 6), (3, 1, 0, 6, 0)):
            self.asks(dealing, True)

    def test_not_let_by(self):
        for dealing in ((0, 0, 0, 1, 3), (1, 1, 6, 6, 6), (6, 6, 6, 6, 0), (2, 0, 0, 1, 3), (0, 0, 1, 3, 7), (0, 0, 3, 3, 6)):
            self.asks(dealing, False)

    def test_another_number(self):
        for dealing in ((), (0,), (0, 0, 1, 3), (0, 0, 1, 3, 6, 6), (0, 0, 1, 3, 6) * 2):
            self.asks(dealing, False)

    def test_things_of_any_kind(self):
        for thing in no_names() + ["00136", 5, 136]:
            self.assertIs(is_dealt(self.atlas, thing), False)
        for thing in no_lots():
            for at in range(5):
                dealing = [0, 0, 1, 3, 6]
                dealing[at] = thing
                before = flat(dealing)
                self.assertIs(is_dealt(self.atlas, dealing), False)
                self.assertIs(is_dealt(self.atlas, tuple(dealing)), False)
                self.assertEqual(flat(dealing), before)

    def test_an_atlas_without_walkers(self):
        for box in (BOX, (0,) * 8):
            self.assertIs(is_dealt(Atlas(box), ()), True)
            self.assertIs(is_dealt(Atlas(box), []), True)
            for thing in (None, "", 0, False, (0,), [()], ((),)):
                self.assertIs(is_dealt(Atlas(box), thing), False)

    def test_just_what_the_oracle_lets_by(self):
        logs = {"a": (SWAP,), "b": ()}
        for box in ((1, 0, 2, 0, 0, 0, 0, 1), (0,) * 8, (3, 0, 0, 0, 0, 0, 0, 0), (1,) * 8):
            atlas = Atlas(box, list(logs.items()))
            wanted = set(oracle.dealings(box, logs))
            for one in range(8):
                for other in range(8):
                    for third in range(8):
                        dealing = (one, other, third)
                        self.assertIs(is_dealt(atlas, dealing), dealing in wanted)


class Told(unittest.TestCase):
    def setUp(self):
        self.atlas = Atlas(BOX, LOGS)

    def test_facts_with_the_walkers_lots(self):
        dealing = (1, 0, 6, 3, 6)
        ann = ((1, "open", (0, 0), "e"), (1, "open", (1, 0), "e"), (2, "sign", (2, 0), "Oak"))
        bob = ((0, "sign", (0, 0), "Oak"), (3, "open", (0, 0), "n"))
        for given in (dealing, list(dealing)):
            self.assertTrue(alike(told(self.atlas, given, "ann"), ann))
            self.assertTrue(alike(told(self.atlas, given, "bob"), bob))
            self.assertTrue(alike(told(name="cy", dealing=given, atlas=self.atlas), ()))
            self.assertTrue(alike(given, dealing) or alike(given, list(dealing)))

    def test_each_leg_has_its_own_lot(self):
        log = (FACE, ("bump",), SWAP, FACE, ("bump",), SWAP, FACE, ("bump",))
        atlas = Atlas((1,) * 8, (("a", log), ("b", log)))
        shut = {0: ((0, 0), "n"), 1: ((0, 0), "e"), 2: ((0, -1), "n"), 3: ((-1, 0), "e")}
        dealing = (3, 1, 0, 2, 7, 5)
        self.assertEqual([fact[2:] for fact in told(atlas, dealing, "a")], [shut[3], shut[1], shut[0]])
        self.assertEqual([fact[2:] for fact in told(atlas, dealing, "b")], [shut[2], shut[3], shut[1]])

    def test_at_random(self):
        chance = random.Random(14)
        for _ in range(60):
            box, logs, dealing = oracle.random_case(chance)
            atlas = Atlas(box, list(logs.items()))
            for name, row in oracle.told(logs, dealing).items():
                self.assertTrue(alike(told(atlas, dealing, name), row))

    def refuses(self, dealing, at, name="ann"):
        for given in (tuple(dealing), list(dealing)):
            self.assertTrue(alike(caught(NoDealing, told, self.atlas, given, name).at, at), at)

    def test_another_number_of_lots(self):
        for many in (0, 1, 4, 6, 10):
            self.refuses((0,) * many, 5)
            self.refuses((None,) * many, 5)
            self.refuses(([],) * many, 5, "nobody")

    def test_no_lots(self):
        for thing in no_lots():
            for at in range(5):
                dealing = [0, 0, 1, 3, 6]
                dealing[at] = thing
                self.refuses(dealing, at)

    def test_the_box_has_no_more(self):
        for dealing, at in (
            ((0, 0, 0, 1, 3), 2), ((2, 0, 0, 1, 3), 0), ((1, 6, 6, 6, 1), 4), ((6, 6, 6, 6, 9), 3), ((6, 6, 9, 6, 6), 2),
            ((1, True, 0, 0, 3), 1), ((0, 1, 1, 1, 1), 2), ((4, None, 0, 0, 0), 0),
        ):
            self.refuses(dealing, at)
            self.refuses(dealing, at, "nobody")

    def test_no_walker_behind_no_dealing(self):
        for name in ("dora", "", "Ann", "an"):
            self.assertEqual(caught(NoWalker, told, self.atlas, (0, 0, 1, 3, 6), name).name, name)
        self.assertEqual(caught(NoWalker, told, Atlas(BOX), (), "ann").name, "ann")
        self.assertEqual(caught(NoDealing, told, Atlas(BOX), (0,), "ann").at, 0)


class Groups(unittest.TestCase):
    def parts(self, logs, wanted):
        for given in (logs, logs[::-1], listed(logs)):
            atlas = Atlas(BOX, given)
            self.assertTrue(alike(groups(atlas), wanted), logs)
            self.assertTrue(alike(groups(atlas=atlas), wanted), logs)

    def test_none_and_one(self):
        self.parts((), ())
        self.parts((("ann", ()),), (("ann",),))
        self.parts((("ann", (("sign", "Oak"), ("sign", "Oak"))),), (("ann",),))

    def test_linked_by_a_lone_sign(self):
        self.parts((("ann", (("sign", "Oak"),)), ("bob", (FACE, ("go", 3), ("sign", "Oak")))), (("ann", "bob"),))

    def test_not_linked_by_other_signs(self):
        self.parts((("ann", (("sign", "oak"), ("bare",))), ("bob", (("sign", "oak"), ("bare",)))), (("ann",), ("bob",)))
        self.parts((("ann", (("sign", "Oak"),)), ("bob", (("sign", "oak"),))), (("ann",), ("bob",)))
        self.parts((("ann", (("sign", "Oak"),)), ("bob", (("sign", "Oakk"),))), (("ann",), ("bob",)))
        self.parts((("ann", (FACE, ("spy", 2, "elm"))), ("bob", (("sign", "elm"),))), (("ann",), ("bob",)))

    def test_linked_by_spied_signs(self):
        spies = (FACE, ("spy", 9, "Elm"))
        self.parts((("ann", spies), ("bob", (("sign", "Elm"),))), (("ann", "bob"),))
        self.parts((("ann", spies), ("bob", spies), ("cy", ())), (("ann", "bob"), ("cy",)))

    def test_linked_over_a_third_one(self):
        oak, elm, ash = ("sign", "Oak"), ("sign", "Elm"), ("sign", "Ash")
        self.parts((("ann", (oak,)), ("bob", (elm,)), ("cy", (oak, elm))), (("ann", "bob", "cy"),))
        self.parts((("ann", (oak,)), ("bob", (ash,)), ("cy", (oak, elm)), ("dora", (elm,))), (("ann", "cy", "dora"), ("bob",)))
        self.parts((("a", (oak,)), ("b", (elm,)), ("c", (ash,)), ("d", (elm, ash)), ("e", (ash, oak))),
                   (("a", "b", "c", "d", "e"),))

    def test_order_of_the_groups(self):
        oak, elm = ("sign", "Oak"), ("sign", "Elm")
        self.parts((("a", (elm,)), ("b", (oak,)), ("c", ()), ("d", (elm,)), ("e", (oak,))), (("a", "d"), ("b", "e"), ("c",)))
        self.parts((("a", (oak,)), ("aa", ()), ("ab", (oak,)), ("b", ())), (("a", "ab"), ("aa",), ("b",)))

    def test_at_random(self):
        chance = random.Random(15)
        for _ in range(200):
            logs = {name: oracle.random_log(chance, chance.randrange(5), 0) for name in ("a", "b", "c", "d", "e")}
            self.parts(tuple(logs.items()), oracle.groups(logs))


if __name__ == "__main__":
    unittest.main()
