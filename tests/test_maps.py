"""Points 25 and 26: lands and their drawings."""

import random
import unittest

from tests import oracle
from tests.samples import alike, caught, flat, listed
from wayneedle.atlas import Atlas
from wayneedle.errors import NoDealing, NoFit, NoWalker
from wayneedle.fits import spread
from wayneedle.lots import both, turned
from wayneedle.maps import charted, drawn

FACE = ("face", "n")

SWAP = ("swap",)

RIGHT = (6, 0, 0, 0, 0, 0, 0, 0)

OAK, ELM, ASH, HUT, BARE, BUMP = ("sign", "Oak"), ("sign", "Elm"), ("sign", "Ash"), ("sign", "hut"), ("bare",), ("bump",)


class Told(unittest.TestCase):
    def land(self, atlas, dealing, name, wanted):
        for given in (tuple(dealing), list(dealing)):
            self.assertTrue(alike(charted(atlas, given, name), wanted), charted(atlas, given, name))
        self.assertTrue(alike(charted(name=name, dealing=dealing, atlas=atlas), wanted))

    def shows(self, logs, dealing, name, rows):
        atlas = Atlas(tuple(dealing.count(lot) for lot in range(8)), logs)
        wanted = "\n".join(rows)
        self.assertTrue(alike(drawn(atlas, dealing, name), wanted), "\n" + drawn(atlas, dealing, name))
        self.assertTrue(alike(drawn(name=name, dealing=list(dealing), atlas=atlas), wanted))


class Charted(Told):
    def test_each_kind(self):
        log = (OAK, FACE, ("go", 2), HUT, BUMP, ("right",), ("go", 1), BARE, ("spy", 3, "Elm"), ("right",), BUMP)
        atlas = Atlas(RIGHT, (("ann", log),))
        self.land(atlas, (0,), "ann", (
            (((0, 0), "Oak"), ((0, 2), "hut"), ((4, 2), "Elm")), ((1, 2),),
            ((0, 0, "n"), (0, 1, "n"), (0, 2, "e")), ((0, 2, "n"), (1, 1, "n"))))

    def test_with_another_lot(self):
        log = (OAK, FACE, ("go", 2), HUT, BUMP, ("right",), ("go", 1), BARE)
        self.land(Atlas((0, 1, 0, 0, 0, 0, 0, 0), (("ann", log),)), (1,), "ann", (
            (((0, 0), "Oak"), ((2, 0), "hut")), ((2, -1),), ((0, 0, "e"), (1, 0, "e"), (2, -1, "n")), ((2, 0, "e"),)))
        # With the lot 4 n is right, and the body turns to the right as ever.
        self.land(Atlas((0, 0, 0, 0, 1, 0, 0, 0), (("ann", log),)), (4,), "ann", (
            (((0, 0), "Oak"), ((0, 2), "hut")), ((1, 2),), ((0, 0, "n"), (0, 1, "n"), (0, 2, "e")), ((0, 2, "n"),)))

    def test_each_once_and_sorted(self):
        log = (HUT, HUT, ("face", "w"), ("go", 1), BARE, BARE, BUMP, BUMP, ("back",), ("go", 1), HUT, ("go", 2), HUT,
               ("back",), ("go", 3), ("left",), BUMP, ("spy", 1, "hut"))
        atlas = Atlas(RIGHT, (("ann", log),))
        self.land(atlas, (0,), "ann", (
            (((-1, -1), "hut"), ((0, 0), "hut"), ((2, 0), "hut")), ((-1, 0),),
            ((-1, 0, "e"), (0, 0, "e"), (1, 0, "e")), ((-2, 0, "e"), (-1, -1, "n"))))

    def test_nothing_told(self):
        for log in ((), (FACE,), (FACE, ("back",), SWAP)):
            atlas = Atlas(RIGHT, (("ann", log),))
            self.land(atlas, (0,) * len(atlas), "ann", ((), (), (), ()))

    def test_walkers_of_one_group(self):
        logs = (
            ("ann", (FACE, ("go", 1), OAK)), ("bob", (BARE, ("face", "e"), ("spy", 2, "Oak"), ("go", 1))),
            ("cy", (("face", "e"), BUMP, ("right",), ("spy", 1, "Elm"))), ("dora", (ELM, FACE, ("go", 1), ("spy", 3, "Oak"))))
        atlas = Atlas(RIGHT, logs)
        self.assertEqual(spread(atlas, (0,) * 4)[1], (
            ("ann", (0, 0)), ("bob", (-2, 1)), ("cy", (0, -2)), ("dora", (0, -3))))
        for name in ("ann", "bob", "cy", "dora"):
            self.land(atlas, (0,) * 4, name, (
                (((0, -3), "Elm"), ((0, 1), "Oak")), ((-2, 1),), ((-2, 1, "e"), (0, -3, "n"), (0, 0, "n")), ((0, -2, "e"),)))

    def test_several_groups(self):
        logs = (
            ("ann", (("face", "e"), ("go", 2), ELM)), ("bob", (BARE,)), ("cy", (FACE, ("go", 1), OAK)),
            ("dora", (OAK, ("face", "w"), BUMP)), ("eve", (ELM, FACE, BUMP)))
        atlas = Atlas(RIGHT, logs)
        for names, wanted in (
            (("ann", "eve"), ((((2, 0), "Elm"),), (), ((0, 0, "e"), (1, 0, "e")), ((2, 0, "n"),))),
            (("bob",), ((), ((0, 0),), (), ())),
            (("cy", "dora"), ((((0, 1), "Oak"),), (), ((0, 0, "n"),), ((-1, 1, "e"),))),
        ):
            for name in names:
                self.land(atlas, (0,) * 5, name, wanted)

    def test_the_true_land_at_random(self):
        chance = random.Random(31)
        for _ in range(150):
            box, logs, dealing = oracle.random_case(chance)
            atlas = Atlas(box, list(logs.items()))
            before = flat((atlas.box, atlas.names, atlas.logs))
            for name in logs:
                wanted = oracle.charted(logs, dealing, name)
                self.land(atlas, dealing, name, wanted)
                self.assertEqual(drawn(atlas, dealing, name), oracle.drawn(logs, dealing, name))
            self.assertEqual(flat((atlas.box, atlas.names, atlas.logs)), before)

    def test_walked_anew_all_is_found_as_written(self):
        chance = random.Random(32)
        for _ in range(60):
            box, logs, dealing = oracle.random_case(chance)
            atlas = Atlas(box, list(logs.items()))
            starts = dict(spread(atlas, dealing)[1])
            rows = oracle.told(logs, dealing)
            for name in logs:
                signs, bares, opens, shuts = charted(atlas, dealing, name)
                for _, word, (east, north), what in rows[name]:
                    place = (east + starts[name][0], north + starts[name][1])
                    if word == "sign":
                        self.assertEqual(dict(signs)[place], what)
                        self.assertNotIn(place, bares)
                    elif word == "bare":
                        self.assertIn(place, bares)
                        self.assertNotIn(place, dict(signs))
                    else:
                        self.assertIn((*place, what), opens if word == "open" else shuts)
                        self.assertNotIn((*place, what), shuts if word == "open" else opens)

    def test_a_dealing_that_is_turned(self):
        chance = random.Random(33)
        for _ in range(40):
            box, logs, dealing = oracle.random_case(chance)
            atlas = Atlas(box, list(logs.items()))
            for turn in range(4):
                again = tuple(both(turn, lot) for lot in dealing)
                other = Atlas(tuple(again.count(lot) for lot in range(8)), list(logs.items()))
                for name in logs:
                    signs, bares, opens, shuts = charted(atlas, dealing, name)
                    turned_land = charted(other, again, name)
                    self.assertEqual(turned_land[0], tuple(sorted((turned(turn, place), sign) for place, sign in signs)))
                    self.assertEqual(turned_land[1], tuple(sorted(turned(turn, place) for place in bares)))
                    for ways, others in ((opens, turned_land[2]), (shuts, turned_land[3])):
                        self.assertEqual(others, tuple(sorted(self.turned_way(turn, way) for way in ways)))

    def turned_way(self, turn, way):
        east, north, side = way
        ends = [turned(turn, place) for place in ((east, north), (east + (side == "e"), north + (side == "n")))]
        return (*min(ends), "n" if ends[0][0] == ends[1][0] else "e")


class Drawn(Told):
    def test_nothing_told(self):
        for log in ((), (FACE,), (FACE, ("right",))):
            self.shows((("ann", log),), (0,), "ann", ("?",))

    def test_one_place(self):
        self.shows((("ann", (OAK,)),), (0,), "ann", ("O",))
        self.shows((("ann", (HUT,)),), (0,), "ann", ("h",))
        self.shows((("ann", (BARE, FACE)),), (0,), "ann", (".",))

    def test_ways_alone(self):
        self.shows((("ann", (("face", "e"), ("go", 1))),), (0,), "ann", ("?-?",))
        self.shows((("ann", (("face", "e"), BUMP)),), (0,), "ann", ("?#?",))
        self.shows((("ann", (("face", "w"), ("go", 1))),), (0,), "ann", ("?-?",))
        self.shows((("ann", (("face", "w"), BUMP)),), (0,), "ann", ("?#?",))
        self.shows((("ann", (FACE, ("go", 2))),), (0,), "ann", ("?", "|", "?", "|", "?"))
        self.shows((("ann", (FACE, BUMP)),), (0,), "ann", ("?", "#", "?"))
        self.shows((("ann", (("face", "s"), ("go", 1))),), (0,), "ann", ("?", "|", "?"))
        self.shows((("ann", (("face", "s"), BUMP)),), (0,), "ann", ("?", "#", "?"))

    def test_each_mark(self):
        log = (OAK, FACE, ("go", 2), HUT, BUMP, ("right",), ("go", 1), BARE, ("spy", 3, "Elm"), ("right",), BUMP)
        self.shows((("ann", log),), (0,), "ann", (
            "? ? ? ? ?",
            "#        ",
            "h-. ? ? E",
            "| #      ",
            "? ? ? ? ?",
            "|        ",
            "O ? ? ? ?"))

    def test_ways_between_places_of_one_row(self):
        log = (FACE, BUMP, ("right",), ("go", 1), OAK, ("left",), ("go", 1), ("right",), BUMP, ("left",), ("left",), ("go", 2), BARE)
        self.shows((("ann", log),), (0,), "ann", (
            ".-?-?#?",
            "  # |  ",
            "? ?-O ?"))

    def test_north_is_above_and_east_is_right(self):
        for letter, rows in (
            ("n", ("O", " ", "?", " ", ".")), ("e", (". ? O",)), ("s", (".", " ", "?", " ", "O")), ("w", ("O ? .",)),
        ):
            self.shows((("ann", (BARE, ("face", letter), ("spy", 2, "Oak"))),), (0,), "ann", rows)

    def test_the_middle_is_held_though_nothing_is_told_there(self):
        log = (("face", "e"), ("spy", 9, "Oak"))
        self.shows((("ann", log),), (0,), "ann", ("? ? ? ? ? ? ? ? ? O",))
        log = (("face", "s"), ("spy", 3, "hut"), ("left",), ("spy", 2, "well"))
        self.shows((("ann", log),), (0,), "ann", ("? ? w", "     ", "? ? ?", "     ", "? ? ?", "     ", "h ? ?"))

    def test_a_start_of_another_walker_is_not_held(self):
        logs = (("ann", (OAK,)), ("bob", (("face", "e"), ("spy", 9, "Oak"))))
        self.shows(logs, (0, 0), "ann", ("O",))
        self.shows(logs, (0, 0), "bob", ("O",))

    def test_far_signs_all_around(self):
        log = (FACE, ("spy", 9, "Oak"), ("right",), ("spy", 9, "Elm"), ("right",), ("spy", 9, "hut"), ("right",), ("spy", 9, "Ash"))
        atlas = Atlas(RIGHT, (("ann", log),))
        rows = drawn(atlas, (0,), "ann").split("\n")
        self.assertEqual((len(rows), {len(row) for row in rows}), (37, {37}))
        self.assertEqual((rows[0][18], rows[18][36], rows[36][18], rows[18][0]), ("O", "E", "h", "A"))
        self.assertEqual("".join(rows).count("?"), 19 * 19 - 4)
        self.assertEqual(drawn(atlas, (0,), "ann"), oracle.drawn({"ann": log}, (0,), "ann"))

    def test_walkers_of_one_group_and_several_groups(self):
        logs = (
            ("ann", (("face", "e"), ("go", 2), ELM)), ("bob", (BARE,)), ("cy", (FACE, ("go", 1), OAK)),
            ("dora", (OAK, ("face", "w"), BUMP)), ("eve", (ELM, FACE, BUMP)))
        for names, rows in (
            (("ann", "eve"), ("? ? ?", "    #", "?-?-E")), (("bob",), (".",)), (("cy", "dora"), ("?#O", "  |", "? ?")),
        ):
            for name in names:
                self.shows(logs, (0,) * 5, name, rows)

    def test_the_drawing_hangs_on_the_dealing(self):
        log = (BARE, FACE, ("go", 1), OAK)
        for lot, rows in ((0, ("O", "|", ".")), (1, (".-O",)), (2, (".", "|", "O")), (3, ("O-.",)), (4, ("O", "|", ".")),
                          (5, (".-O",)), (6, (".", "|", "O")), (7, ("O-.",))):
            self.shows((("ann", log),), (lot,), "ann", rows)

    def test_rows_are_of_one_length(self):
        chance = random.Random(34)
        for _ in range(80):
            log = oracle.random_log(chance, 8, 0)
            atlas = Atlas(RIGHT, (("ann", log),))
            if spread(atlas, (0,))[0] == "spread":
                text = drawn(atlas, (0,), "ann")
                self.assertEqual(text, oracle.drawn({"ann": log}, (0,), "ann"))
                self.assertEqual({len(row) % 2 for row in text.split("\n")}, {1})
                self.assertEqual(len({len(row) for row in text.split("\n")}), 1)


class Refused(unittest.TestCase):
    def setUp(self):
        self.atlas = Atlas((1, 1, 1, 0, 0, 0, 0, 0), (
            ("ann", (OAK, FACE, ("go", 1), ELM)), ("bob", (OAK, ("face", "s"), ("go", 1), ELM))))

    def refuses(self, error, dealing, name):
        fields = []
        for call in (charted, drawn):
            for given in (dealing, list(dealing)):
                fields.append(vars(caught(error, call, self.atlas, given, name)))
                fields.append(vars(caught(error, call, name=name, dealing=given, atlas=self.atlas)))
        self.assertTrue(all(each == fields[0] for each in fields))
        return fields[0]

    def test_no_dealing(self):
        for dealing, at in (((), 2), ((0,), 2), ((0, 2, 0), 2), ((0, 0), 1), ((3, 0), 0), ((0, None), 1), ((True, 0), 0),
                            ((0, []), 1), (("0", 2), 0), ((0, -1), 1), ((0, 8), 1)):
            for name in ("ann", "zoe", ""):
                self.assertEqual(self.refuses(NoDealing, dealing, name), {"at": at})

    def test_no_fit(self):
        for dealing in ((0, 1), (1, 0), (1, 2), (2, 1)):
            for name in ("ann", "bob", "zoe", ""):
                self.assertEqual(self.refuses(NoFit, dealing, name), {})

    def test_no_walker(self):
        for name in ("zoe", "", "Ann", "ann ", "an", "Oak", "~" * 4000):
            self.assertEqual(self.refuses(NoWalker, (0, 2), name), {"name": name})
        self.atlas = Atlas(RIGHT)
        self.assertEqual(self.refuses(NoWalker, (), "ann"), {"name": "ann"})

    def test_a_group_that_does_not_fit_bars_the_others_too(self):
        self.atlas = self.atlas.with_log("cy", (BARE,))
        self.assertEqual(self.refuses(NoFit, (0, 1, 2), "cy"), {})

    def test_lists_altered_later(self):
        logs = listed((("ann", (OAK, FACE, ("go", 1), ELM)),))
        given = [0]
        atlas = Atlas(RIGHT, logs)
        told = charted(atlas, given, "ann"), drawn(atlas, given, "ann")
        given[0] = 1
        logs[0][1].append(["bare"])
        self.assertTrue(alike(told, (charted(atlas, (0,), "ann"), drawn(atlas, (0,), "ann"))))
        self.assertEqual(told[1], "E\n|\nO")


if __name__ == "__main__":
    unittest.main()
