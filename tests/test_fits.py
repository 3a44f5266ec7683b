"""Points 15 and 17: which dealings fit, starts, and threads where they don't."""

import random
import unittest

from tests import oracle
from tests.samples import FAR, alike, caught, flat, no_lots
from wayneedle.atlas import Atlas, is_dealt
from wayneedle.bars import is_bad
from wayneedle.errors import NoDealing
from wayneedle.fits import fits, spread
from wayneedle.lots import both, turned

FACE = ("face", "n")

SWAP = ("swap",)

RIGHT = (6, 0, 0, 0, 0, 0, 0, 0)


class Told(unittest.TestCase):
    def starts(self, atlas, dealing, wanted):
        """The dealing fits, and the walkers start so."""
        for given in (tuple(dealing), list(dealing)):
            self.assertTrue(alike(spread(atlas, given), ("spread", wanted)), spread(atlas, given))
        self.assertIn(tuple(dealing), fits(atlas))

    def fails(self, box, logs, dealing):
        """The dealing doesn't fit, and a thread is told that is bad with it; the ends of the thread."""
        atlas = Atlas(box, logs)
        word, thread = spread(atlas, dealing)
        self.assertEqual(word, "bad")
        self.assertTrue(alike((word, thread), spread(dealing=list(dealing), atlas=atlas)))
        self.assertTrue(isinstance(thread, tuple) and all(isinstance(part, tuple) for part in thread))
        self.assertIs(is_bad(atlas, dealing, thread), True)
        by_names = {name: tuple(log) for name, log in logs}
        self.assertTrue(oracle.is_bad(by_names, dealing, thread))
        self.assertNotIn(tuple(dealing), fits(atlas))
        rows = oracle.told(by_names, dealing)
        return rows[thread[0][0]][thread[0][1]], rows[thread[-1][0]][thread[-1][2]]


class Spread(Told):
    def test_without_walkers(self):
        for box in (RIGHT, (0,) * 8):
            self.starts(Atlas(box), (), ())

    def test_walkers_without_signs(self):
        logs = (("ann", ()), ("bob", (FACE, ("go", 3))), ("cy", (FACE, ("bump",))))
        self.starts(Atlas(RIGHT, logs), (0, 0, 0), (("ann", (0, 0)), ("bob", (0, 0)), ("cy", (0, 0))))

    def test_one_group(self):
        logs = (
            ("ann", (FACE, ("go", 3), ("sign", "Oak"))), ("bob", (FACE, ("spy", 5, "Oak"))),
            ("cy", (("face", "e"), ("go", 4), ("sign", "Elm"), ("left",), ("go", 1), ("sign", "Oak"))))
        atlas = Atlas(RIGHT, logs)
        self.starts(atlas, (0, 0, 0), (("ann", (0, 0)), ("bob", (0, -2)), ("cy", (-4, 2))))
        atlas = Atlas((1, 1, 0, 0, 1, 0, 0, 0), logs)
        self.starts(atlas, (0, 1, 4), (("ann", (0, 0)), ("bob", (-5, 3)), ("cy", (4, 4))))

    def test_linked_over_others(self):
        logs = (
            ("ann", (("sign", "Oak"),)), ("bob", (FACE, ("go", 1), ("sign", "Ash"))),
            ("cy", (FACE, ("spy", 2, "Elm"), ("go", 1), ("sign", "Ash"))),
            ("dora", (("face", "e"), ("spy", 3, "Oak"), ("go", 1), ("sign", "Elm"))))
        self.starts(Atlas(RIGHT, logs), (0,) * 4, (("ann", (0, 0)), ("bob", (-2, -2)), ("cy", (-2, -2)), ("dora", (-3, 0))))

    def test_several_groups(self):
        oak, elm = ("sign", "Oak"), ("sign", "Elm")
        logs = (
            ("ann", (FACE, ("go", 1), elm)), ("bob", (FACE, ("go", 2), oak)), ("cy", ()),
            ("dora", (("face", "w"), ("go", 3), oak)), ("eve", (elm,)))
        self.starts(Atlas(RIGHT, logs), (0,) * 5, (
            ("ann", (0, 0)), ("bob", (0, 0)), ("cy", (0, 0)), ("dora", (3, 2)), ("eve", (0, 1))))

    def test_each_group_has_a_land_of_its_own(self):
        logs = (
            ("ann", (("sign", "Oak"), FACE, ("go", 1))), ("bob", (("sign", "Elm"), FACE, ("bump",))),
            ("cy", (("bare",),)), ("dora", (("sign", "hut"),)))
        self.starts(Atlas(RIGHT, logs), (0,) * 4, tuple((name, (0, 0)) for name, _ in logs))

    def test_alike_facts_agree(self):
        logs = (
            ("ann", (("sign", "Oak"), ("sign", "Oak"), FACE, ("go", 2), ("bare",), ("bare",), ("back",), ("go", 2), ("bump",),
                     ("bump",), ("sign", "Oak"))),
            ("bob", (("bare",), ("face", "s"), ("go", 2), ("sign", "Oak"), ("bump",))))
        self.starts(Atlas(RIGHT, logs), (0, 0), (("ann", (0, 0)), ("bob", (0, 2))))

    def test_like_signs_that_are_not_lone_at_several_places(self):
        logs = (("ann", (("sign", "hut"), FACE, ("go", 1), ("sign", "hut"), ("spy", 3, "hut"), ("spy", 2, "rock"))),)
        self.starts(Atlas(RIGHT, logs), (0,), (("ann", (0, 0)),))

    def test_a_dealing_that_is_altered_later(self):
        atlas = Atlas(RIGHT, (("ann", (FACE,)),))
        given = [0]
        told = spread(atlas, given)
        self.assertEqual(given, [0])
        given[0] = 5
        self.assertTrue(alike(told, ("spread", (("ann", (0, 0)),))))


class Bad(Told):
    def test_a_lone_sign_at_two_places_of_one_walker(self):
        log = (("sign", "Oak"), FACE, ("go", 2), ("sign", "Oak"))
        one, other = self.fails(RIGHT, (("ann", log),), (0,))
        self.assertEqual((one[1], one[3], other[1], other[3]), ("sign", "Oak", "sign", "Oak"))
        self.fails(RIGHT, (("ann", (("sign", "Oak"), FACE, ("spy", 1, "Oak"))),), (0,))

    def test_a_lone_sign_at_two_places_of_two_walkers(self):
        ann = (("sign", "Oak"), FACE, ("go", 2), ("sign", "Elm"))
        bob = (("sign", "Oak"), FACE, ("go", 3), ("sign", "Elm"))
        self.fails(RIGHT, (("ann", ann), ("bob", bob)), (0, 0))
        bob = (("sign", "Oak"), ("face", "e"), ("go", 2), ("sign", "Elm"))
        self.fails(RIGHT, (("ann", ann), ("bob", bob)), (0, 0))

    def test_a_lone_sign_at_two_places_around_three_walkers(self):
        def between(one, other, many):
            return (("sign", one), FACE, ("go", many), ("sign", other))
        logs = (("ann", between("Oak", "Elm", 2)), ("bob", between("Elm", "Ash", 1)), ("cy", between("Oak", "Ash", 4)))
        self.fails(RIGHT, logs, (0, 0, 0))
        logs = (*logs[:2], ("cy", between("Oak", "Ash", 3)))
        self.starts(Atlas(RIGHT, logs), (0, 0, 0), (("ann", (0, 0)), ("bob", (0, 2)), ("cy", (0, 0))))

    def test_over_a_chain_of_walkers(self):
        signs = ("Oak", "Elm", "Ash", "Fir", "Yew")
        names = ("ann", "bob", "cy", "dora", "eve")
        for first in range(5):
            for last in range(first + 1, 5):
                logs = []
                for at, name in enumerate(names):
                    log = (("sign", signs[at]), FACE, ("go", 1), *[("sign", sign) for sign in signs[at + 1:at + 2]])
                    # Each goes one step north to the sign at which the next one starts.
                    if at == first:
                        log = (*log, ("back",), ("go", 1), ("left",), ("spy", 5, "hut"))
                    if at == last:
                        log = (*log, ("back",), ("go", 1), *[("go", 1)] * (last - first), ("left",), ("spy", 5, "rock"))
                    logs.append((name, log))
                one, other = self.fails(RIGHT, tuple(logs), (0,) * 5)
                self.assertEqual({one[3], other[3]}, {"hut", "rock"})
                # With the names the other way about the thread leads the other way about, too.
                self.fails(RIGHT, tuple(zip(names[::-1], [log for _, log in logs])), (0,) * 5)

    def test_two_branches_of_a_chain(self):
        logs = (
            ("ann", (("sign", "Oak"),)), ("bob", (("sign", "Oak"), FACE, ("spy", 1, "Elm"))),
            ("cy", (("sign", "Elm"), FACE, ("spy", 2, "hut"))),
            ("dora", (FACE, ("spy", 1, "Oak"), ("right",), ("spy", 3, "Fir"))),
            ("eve", (("sign", "Fir"), FACE, ("go", 4), ("left",), ("spy", 3, "rock"))))
        one, other = self.fails(RIGHT, logs, (0,) * 5)
        self.assertEqual({one[3], other[3]}, {"hut", "rock"})
        # No thread between the two can leave out one of these.
        names = {name for name, _, _ in spread(Atlas(RIGHT, logs), (0,) * 5)[1]}
        self.assertLessEqual({"bob", "cy", "dora", "eve"}, names)
        logs = (*logs[:4], ("eve", (*logs[4][1][:-1], ("spy", 3, "hut"))))
        self.starts(Atlas(RIGHT, logs), (0,) * 5, (
            ("ann", (0, 0)), ("bob", (0, 0)), ("cy", (0, 1)), ("dora", (0, -1)), ("eve", (3, -1))))

    def test_two_unlike_signs_at_one_place(self):
        for first, second in (("hut", "rock"), ("Oak", "Elm"), ("Oak", "oak"), ("hut", "Oak")):
            one, other = self.fails(RIGHT, (("ann", (("sign", first), ("sign", second))),), (0,))
            self.assertEqual({one[3], other[3]}, {first, second})
        logs = (("ann", (("sign", "Oak"), FACE, ("spy", 2, "hut"))), ("bob", (("sign", "Oak"), FACE, ("go", 2), ("sign", "Elm"))))
        self.fails(RIGHT, logs, (0, 0))

    def test_a_sign_and_bare(self):
        for sign in ("Oak", "hut"):
            for log in ((("sign", sign), ("bare",)), (("bare",), ("sign", sign))):
                one, other = self.fails(RIGHT, (("ann", log),), (0,))
                self.assertEqual({one[1], other[1]}, {"sign", "bare"})
        logs = (("ann", (("sign", "Oak"), FACE, ("go", 2), ("bare",))), ("bob", (("sign", "Oak"), FACE, ("spy", 2, "hut"))))
        self.fails(RIGHT, logs, (0, 0))

    def test_a_way_open_and_shut(self):
        for log in (
            (FACE, ("go", 1), ("back",), ("bump",)), (FACE, ("bump",), ("go", 1)),
            (("face", "e"), ("go", 3), ("left",), ("left",), ("bump",)), (("face", "w"), ("bump",), ("go", 2)),
        ):
            one, other = self.fails(RIGHT, (("ann", log),), (0,))
            self.assertEqual(({one[1], other[1]}, one[3]), ({"open", "shut"}, other[3]))
        logs = (("ann", (("sign", "Oak"), FACE, ("go", 2))), ("bob", (FACE, ("bump",), ("go", 1), ("sign", "Oak"))))
        self.fails(RIGHT, logs, (0, 0))

    def test_ways_of_unlike_sides_at_one_place_do_not_clash(self):
        log = (FACE, ("bump",), ("right",), ("go", 1))
        self.starts(Atlas(RIGHT, (("ann", log),)), (0,), (("ann", (0, 0)),))

    def test_one_group_of_several(self):
        good, bad = (("sign", "Elm"), FACE, ("go", 1)), (("sign", "Oak"), ("bare",))
        for names in (("ann", "bob", "cy"), ("bob", "cy", "ann"), ("cy", "ann", "bob")):
            self.fails(RIGHT, ((names[0], good), (names[1], bad), (names[2], good)), (0, 0, 0))

    def test_what_hangs_on_the_lots(self):
        ann = (("sign", "Oak"), FACE, ("go", 2), ("sign", "Elm"))
        bob = (("sign", "Oak"), ("face", "e"), ("go", 2), ("sign", "Elm"))
        box = (2,) * 8
        atlas = Atlas(box, (("ann", ann), ("bob", bob)))
        true = ("nesw", "eswn", "swne", "wnes", "nwse", "enws", "senw", "wsen")
        wanted = [(a, b) for a in range(8) for b in range(8) if true[a][0] == true[b][1]]
        self.assertTrue(alike(fits(atlas), tuple(wanted)))
        for a in range(8):
            for b in range(8):
                if (a, b) in wanted:
                    self.starts(atlas, (a, b), (("ann", (0, 0)), ("bob", (0, 0))))
                else:
                    self.fails(box, (("ann", ann), ("bob", bob)), (a, b))


class Refused(unittest.TestCase):
    def setUp(self):
        self.atlas = Atlas((2, 1, 0, 0, 0, 0, 0, 1), (("ann", (SWAP,)), ("bob", ())))

    def refuses(self, dealing, at):
        for given in (tuple(dealing), list(dealing)):
            self.assertTrue(alike(caught(NoDealing, spread, self.atlas, given).at, at), at)
            self.assertTrue(alike(caught(NoDealing, spread, dealing=given, atlas=self.atlas).at, at), at)

    def test_another_number(self):
        for many in (0, 1, 2, 4, 5):
            for thing in (0, 2, None, []):
                self.refuses((thing,) * many, 3)

    def test_no_lots(self):
        for thing in no_lots():
            for at in range(3):
                dealing = [0, 0, 1]
                dealing[at] = thing
                self.refuses(dealing, at)

    def test_the_box_has_no_more(self):
        for dealing, at in (((0, 0, 0), 2), ((1, 1, 0), 1), ((2, 0, 0), 0), ((7, 0, 7), 2), ((7, 7, None), 1)):
            self.refuses(dealing, at)

    def test_without_walkers(self):
        for dealing in ((0,), [None]):
            self.assertTrue(alike(caught(NoDealing, spread, Atlas(RIGHT), dealing).at, 0))


class Fits(unittest.TestCase):
    def test_without_walkers(self):
        for box in (RIGHT, (0,) * 8):
            self.assertTrue(alike(fits(Atlas(box)), ((),)))
            self.assertTrue(alike(fits(Atlas(box), most=0), ()))
            for most in (None, 1, 2, FAR):
                self.assertTrue(alike(fits(Atlas(box), most=most), ((),)))

    def test_rising(self):
        atlas = Atlas((1, 0, 2, 0, 0, 0, 0, 1), (("ann", ()), ("bob", ())))
        wanted = ((0, 2), (0, 7), (2, 0), (2, 2), (2, 7), (7, 0), (7, 2))
        self.assertTrue(alike(fits(atlas), wanted))
        self.assertTrue(alike(fits(atlas=atlas), wanted))
        for most in range(10):
            self.assertTrue(alike(fits(atlas, most=most), wanted[:most]))
            self.assertTrue(alike(fits(most=most, atlas=atlas), wanted[:most]))
        self.assertTrue(alike(fits(atlas, most=FAR), wanted))
        self.assertTrue(alike(fits(atlas, most=None), wanted))

    def test_most_by_its_name_alone(self):
        with self.assertRaises(TypeError):
            fits(Atlas(RIGHT), 1)

    def test_too_few_compasses(self):
        for box in ((0,) * 8, (1, 0, 0, 0, 0, 0, 0, 0), (0, 0, 1, 0, 0, 0, 1, 0)):
            atlas = Atlas(box, (("ann", (SWAP,)), ("bob", ())))
            for most in (None, 0, 1, 5):
                self.assertTrue(alike(fits(atlas, most=most), ()))

    def test_none_fits(self):
        atlas = Atlas((1,) * 8, (("ann", (("bare",), ("sign", "hut"))), ("bob", ())))
        for most in (None, 0, 1, 5):
            self.assertTrue(alike(fits(atlas, most=most), ()))

    def test_legs_of_one_walker(self):
        log = (("sign", "Oak"), FACE, ("go", 2), SWAP, ("face", "s"), ("go", 2), ("sign", "Oak"))
        atlas = Atlas((1, 1, 1, 1, 1, 1, 1, 1), (("ann", log),))
        # The way out and the way back are the same where n of the one and n of the other are the same way.
        self.assertTrue(alike(fits(atlas), ((0, 4), (1, 5), (2, 6), (3, 7), (4, 0), (5, 1), (6, 2), (7, 3))))

    def test_many_legs(self):
        log = (FACE,) + (SWAP, FACE) * 5
        self.assertEqual(len(fits(Atlas((2, 2, 2, 0, 0, 0, 0, 0), (("ann", log),)))), 90)
        log = (SWAP,) * 40
        self.assertEqual(fits(Atlas((41, 0, 0, 0, 0, 0, 0, 0), (("ann", log),))), ((0,) * 41,))

    def test_the_same_whenever_asked(self):
        chance = random.Random(5)
        for _ in range(40):
            box, logs, _ = oracle.random_case(chance, liars=chance.randrange(3), many_lots=3)
            atlas, other = Atlas(box, list(logs.items())), Atlas(box, list(logs.items())[::-1])
            told = [fits(atlas), fits(atlas), fits(other), fits(atlas.with_log("zoe", ()).without("zoe"))]
            self.assertTrue(all(alike(told[0], each) for each in told))
            for dealing in oracle.dealings(box, logs):
                self.assertTrue(alike(spread(atlas, dealing), spread(other, list(dealing))))

    def test_the_atlas_stays_as_it_was(self):
        chance = random.Random(6)
        for _ in range(40):
            box, logs, dealing = oracle.random_case(chance, liars=chance.randrange(3))
            atlas = Atlas(box, list(logs.items()))
            before = flat((atlas.box, atlas.names, atlas.logs))
            fits(atlas, most=20)
            spread(atlas, dealing)
            self.assertEqual(flat((atlas.box, atlas.names, atlas.logs)), before)


class AtRandom(Told):
    def cases(self, seed, many, liars):
        """Boxes, logs and true dealings of few dealings each."""
        chance = random.Random(seed)
        for _ in range(many):
            box, logs, dealing = oracle.random_case(chance, chance.choice(liars), chance.choice((2, 3, 8)))
            if len(dealing) <= 4 or max(box[3:]) == 0:
                yield box, logs, dealing

    def test_the_true_dealing_fits(self):
        for box, logs, dealing in self.cases(1, 400, (0,)):
            atlas = Atlas(box, list(logs.items()))
            self.assertIs(is_dealt(atlas, dealing), True)
            self.assertIn(dealing, fits(atlas))
            self.assertEqual(spread(atlas, dealing)[0], "spread")

    def test_just_those_fit_that_the_oracle_tells(self):
        whole = 0
        for box, logs, _ in self.cases(2, 250, (0, 1, 2, 3)):
            atlas = Atlas(box, list(logs.items()))
            wanted = oracle.fits(box, logs)
            self.assertTrue(alike(fits(atlas), wanted), (box, logs))
            for most in (0, 1, 2, len(wanted), len(wanted) + 1):
                self.assertTrue(alike(fits(atlas, most=most), wanted[:most]))
            whole += len(wanted) == 0
        # Both kinds of atlases must have been tried.
        self.assertGreater(whole, 10)

    def test_of_each_dealing_starts_or_a_bad_thread(self):
        for box, logs, _ in self.cases(3, 150, (0, 1, 2, 3)):
            atlas = Atlas(box, list(logs.items()))
            for dealing in oracle.dealings(box, logs):
                wanted = oracle.spread(logs, dealing)
                word, told = spread(atlas, dealing)
                if wanted is None:
                    self.assertEqual(word, "bad")
                    self.assertTrue(oracle.is_bad(logs, dealing, told), (logs, dealing, told))
                    self.assertIs(is_bad(atlas, dealing, told), True)
                else:
                    self.assertTrue(alike((word, told), ("spread", wanted)), (logs, dealing))

    def test_a_box_that_is_turned(self):
        for box, logs, dealing in self.cases(4, 60, (0, 1)):
            atlas = Atlas(box, list(logs.items()))
            for turn in range(4):
                other = [0] * 8
                for lot in range(8):
                    other[both(turn, lot)] = box[lot]
                turned_atlas = Atlas(other, list(logs.items()))
                wanted = sorted(tuple(both(turn, lot) for lot in each) for each in fits(atlas))
                self.assertEqual(list(fits(turned_atlas)), wanted)
                word, told = spread(atlas, dealing)
                if word == "spread":
                    told = tuple((name, turned(turn, place)) for name, place in told)
                    again = tuple(both(turn, lot) for lot in dealing)
                    self.assertEqual(spread(turned_atlas, again), ("spread", told))


if __name__ == "__main__":
    unittest.main()
