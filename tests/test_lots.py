"""Points 6 and 7: letters, places, ways and lots."""

import copy
import unittest

from tests.samples import FAR, alike, caught, nested, no_lots
from wayneedle.errors import NoLot
from wayneedle.lots import LETTERS, both, shown, step, true, turned, undone, way_of

# What true tells of n, e, s, w, reckoned by hand.
TRUE = ("nesw", "eswn", "swne", "wnes", "nwse", "enws", "senw", "wsen")

UNDONE = (0, 3, 2, 1, 4, 5, 6, 7)

# Where each lot turns the place (3, 5).
TURNED = ((3, 5), (5, -3), (-3, -5), (-5, 3), (-3, 5), (5, 3), (3, -5), (-5, -3))


class Letters(unittest.TestCase):
    def test_letters(self):
        self.assertTrue(alike(LETTERS, "nesw"))

    def test_step(self):
        told = [step(letter) for letter in "nesw"]
        self.assertTrue(alike(told, [(0, 1), (1, 0), (0, -1), (-1, 0)]))

    def test_step_by_name(self):
        self.assertEqual(step(letter="w"), (-1, 0))


class Ways(unittest.TestCase):
    def test_from_all_four_sides(self):
        told = [way_of((0, 0), letter) for letter in "nesw"]
        self.assertTrue(alike(told, [(0, 0, "n"), (0, 0, "e"), (0, -1, "n"), (-1, 0, "e")]))
        told = [way_of((7, -4), letter) for letter in "nesw"]
        self.assertTrue(alike(told, [(7, -4, "n"), (7, -4, "e"), (7, -5, "n"), (6, -4, "e")]))

    def test_alike_from_both_ends(self):
        for place in [(0, 0), (-1, -1), (3, -8), (FAR, -FAR), (-FAR, FAR)]:
            for letter, across in ("ns", "sn", "ew", "we"):
                east, north = step(letter)
                beyond = (place[0] + east, place[1] + north)
                self.assertEqual(way_of(place, letter), way_of(beyond, across))

    def test_the_four_ways_of_a_place_are_unlike(self):
        self.assertEqual(len({way_of((5, 6), letter) for letter in "nesw"}), 4)

    def test_far_places(self):
        for east in (FAR, -FAR):
            for north in (FAR, -FAR):
                told = [way_of((east, north), letter) for letter in "nesw"]
                self.assertEqual(told, [
                    (east, north, "n"), (east, north, "e"), (east, north - 1, "n"), (east - 1, north, "e")])

    def test_a_list_for_a_place(self):
        place = [2, 9]
        told = [way_of(place, letter) for letter in "nesw"]
        self.assertEqual(place, [2, 9])
        place[0] = 50
        self.assertTrue(alike(told, [(2, 9, "n"), (2, 9, "e"), (2, 8, "n"), (1, 9, "e")]))

    def test_by_names(self):
        self.assertEqual(way_of(letter="s", place=(0, 0)), (0, -1, "n"))


class Lots(unittest.TestCase):
    def test_true(self):
        for lot in range(8):
            self.assertEqual("".join(true(lot, letter) for letter in "nesw"), TRUE[lot])

    def test_shown(self):
        for lot in range(8):
            for at, letter in enumerate("nesw"):
                self.assertEqual(shown(lot, TRUE[lot][at]), letter)

    def test_true_and_shown_lead_back(self):
        for lot in range(8):
            for letter in "nesw":
                self.assertEqual(shown(lot, true(lot, letter)), letter)
                self.assertEqual(true(lot, shown(lot, letter)), letter)

    def test_both(self):
        for one in range(8):
            for other in range(8):
                joined = "".join(TRUE[one]["nesw".index(letter)] for letter in TRUE[other])
                self.assertTrue(alike(both(one, other), TRUE.index(joined)), (one, other))
                self.assertEqual("".join(true(both(one, other), letter) for letter in "nesw"), joined)

    def test_undone(self):
        self.assertTrue(alike([undone(lot) for lot in range(8)], list(UNDONE)))

    def test_undone_leads_back(self):
        for lot in range(8):
            self.assertEqual((both(lot, undone(lot)), both(undone(lot), lot)), (0, 0))

    def test_by_names(self):
        self.assertEqual(true(letter="e", lot=4), "w")
        self.assertEqual(shown(letter="n", lot=1), "w")
        self.assertEqual((both(other=4, one=1), both(other=1, one=4)), (5, 7))
        self.assertEqual(undone(lot=3), 1)
        self.assertEqual(turned(place=(3, 5), lot=1), (5, -3))


class Turned(unittest.TestCase):
    def test_all_lots(self):
        for lot in range(8):
            self.assertTrue(alike(turned(lot, (3, 5)), TURNED[lot]), lot)

    def test_the_middle_stays(self):
        for lot in range(8):
            self.assertEqual(turned(lot, (0, 0)), (0, 0))

    def test_steps_are_turned_as_their_letters(self):
        for lot in range(8):
            for at, letter in enumerate("nesw"):
                self.assertEqual(turned(lot, step(letter)), step(TRUE[lot][at]))

    def test_turned_by_both(self):
        for one in range(8):
            for other in range(8):
                self.assertEqual(turned(both(one, other), (3, 5)), turned(one, turned(other, (3, 5))))

    def test_far_places(self):
        for east, north in [(FAR, FAR - 1), (-FAR, FAR - 1), (FAR, 1 - FAR), (-FAR, 1 - FAR)]:
            told = [turned(lot, (east, north)) for lot in range(8)]
            self.assertEqual(told, [
                (east, north), (north, -east), (-east, -north), (-north, east),
                (-east, north), (north, east), (east, -north), (-north, -east)])

    def test_a_list_for_a_place(self):
        for lot in range(8):
            place = [3, 5]
            told = turned(lot, place)
            self.assertEqual(place, [3, 5])
            place[:] = [8, 8]
            self.assertTrue(alike(told, TURNED[lot]))


class Refused(unittest.TestCase):
    def refuses(self, call, *args, **named):
        """The field of the refusal."""
        return caught(NoLot, call, *args, **named).lot

    def test_what_is_no_lot(self):
        for thing in no_lots():
            self.assertTrue(alike(self.refuses(true, thing, "n"), thing), thing)
            self.assertTrue(alike(self.refuses(shown, thing, "e"), thing), thing)
            self.assertTrue(alike(self.refuses(undone, thing), thing), thing)
            self.assertTrue(alike(self.refuses(turned, thing, (1, 2)), thing), thing)
            self.assertTrue(alike(self.refuses(turned, thing, [0, 0]), thing), thing)
            for lot in range(8):
                self.assertTrue(alike(self.refuses(both, thing, lot), thing), thing)
                self.assertTrue(alike(self.refuses(both, lot, thing), thing), thing)

    def test_truths_are_no_lots_beside_any_letter(self):
        for thing in (True, False):
            for letter in "nesw":
                self.assertIs(self.refuses(true, thing, letter), thing)
                self.assertIs(self.refuses(shown, thing, letter), thing)

    def test_both_names_one_ahead_of_other(self):
        for one in no_lots():
            for other in no_lots():
                self.assertTrue(alike(self.refuses(both, one, other), one), (one, other))
        self.assertEqual(self.refuses(both, other="b", one="a"), "a")

    def test_by_names(self):
        self.assertEqual(self.refuses(true, letter="n", lot=8), 8)
        self.assertEqual(self.refuses(shown, letter="n", lot=8), 8)
        self.assertEqual(self.refuses(undone, lot=8), 8)
        self.assertEqual(self.refuses(turned, place=(0, 0), lot=8), 8)

    def test_a_list_that_is_altered_later_does_not_alter_the_refusal(self):
        for call, rest in ((true, ("n",)), (shown, ("n",)), (undone, ()), (turned, ((1, 2),)), (both, (0,))):
            thing = [1, ([2], 3)]
            before = copy.deepcopy(thing)
            told = self.refuses(call, thing, *rest)
            thing[1][0].append(4)
            thing.append(5)
            self.assertTrue(alike(told, before))

    def test_a_list_that_is_altered_deep_within_does_not_alter_the_refusal(self):
        for call, rest in ((true, ("n",)), (shown, ("n",)), (undone, ()), (turned, ((1, 2),)), (both, (0,))):
            for depth in (99, 100, 101, 150, 5000):
                inmost = []
                told = self.refuses(call, nested(depth, inmost), *rest)
                inmost.append(1)
                self.assertTrue(alike(told, nested(depth, [])), (call, depth))


if __name__ == "__main__":
    unittest.main()
