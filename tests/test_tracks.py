"""Points 11 and 12: tracks and facts."""

import random
import unittest

from tests import oracle
from tests.samples import alike, caught, listed, no_lots
from wayneedle.errors import NoDealing
from wayneedle.logs import held_log
from wayneedle.tracks import facts, track

# What true tells of n, e, s, w, reckoned by hand.
TRUE = ("nesw", "eswn", "swne", "wnes", "nwse", "enws", "senw", "wsen")

STEPS = {"n": (0, 1), "e": (1, 0), "s": (0, -1), "w": (-1, 0)}

SWAP = ("swap",)


class Told(unittest.TestCase):
    def same(self, told, wanted):
        self.assertTrue(alike(told, wanted), (told, wanted))

    def tracks(self, log, lots, wanted):
        """The track is as wanted, of tuples and of lists, which stay as they were and may be altered afterwards."""
        self.agrees(track, log, lots, wanted)

    def tells(self, log, lots, wanted):
        """The facts are as wanted, likewise."""
        self.agrees(facts, log, lots, wanted)

    def agrees(self, call, log, lots, wanted):
        self.same(call(log, lots), wanted)
        self.same(call(lots=lots, log=log), wanted)
        given, given_lots = listed(log), listed(lots)
        told = call(given, given_lots)
        self.assertTrue(alike((given, given_lots), (listed(log), listed(lots))), log)
        for entry in given:
            entry.clear()
        given.clear()
        given_lots.clear()
        self.same(told, wanted)
        self.same(call([tuple(entry) for entry in log], tuple(lots)), wanted)
        self.same(call(tuple(list(entry) for entry in log), list(lots)), wanted)
        self.same(call(held_log(log), lots), wanted)


class Tracks(Told):
    def test_the_log_of_none(self):
        for lot in range(8):
            self.tracks((), (lot,), ())

    def test_looks_ahead_of_the_first_face(self):
        log = (("sign", "Oak"), ("bare",), SWAP, ("sign", "oak"), SWAP)
        for lot in range(8):
            self.tracks(log, (lot, 7 - lot, 3), (((0, 0), ""),) * 5)

    def test_face_with_every_lot(self):
        for lot in range(8):
            for at, letter in enumerate("nesw"):
                self.tracks((("face", letter),), (lot,), (((0, 0), TRUE[lot][at]),))

    def test_left_right_and_back_of_each_look(self):
        for at, look in enumerate("nesw"):
            for word, quarters in (("right", 1), ("back", 2), ("left", 3)):
                self.tracks((("face", look), (word,)), (0,), (((0, 0), look), ((0, 0), "nesw"[(at + quarters) % 4])))

    def test_turns_of_the_body_whatever_the_compass(self):
        for lot in range(8):
            look = TRUE[lot][0]
            at = "nesw".index(look)
            log = (("face", "n"), ("left",), ("left",), ("right",), ("back",), ("right",))
            looks = [look] + ["nesw"[(at + quarters) % 4] for quarters in (3, 2, 3, 1, 2)]
            self.tracks(log, (lot,), tuple([((0, 0), each) for each in looks]))

    def test_go_each_way(self):
        for lot in range(8):
            for at, letter in enumerate("nesw"):
                look = TRUE[lot][at]
                east, north = STEPS[look]
                for many in range(1, 10):
                    self.tracks((("face", letter), ("go", many), ("go", 2)), (lot,), (
                        ((0, 0), look), ((many * east, many * north), look),
                        ((many * east + 2 * east, many * north + 2 * north), look)))

    def test_what_neither_turns_nor_goes(self):
        for entry in (("bump",), ("sign", "oak"), ("sign", "Oak"), ("bare",), ("spy", 9, "oak"), ("spy", 1, "Oak"), SWAP):
            lots = (0, 3) if entry == SWAP else (0,)
            self.tracks((("face", "e"), ("go", 2), entry), lots, (((0, 0), "e"), ((2, 0), "e"), ((2, 0), "e")))

    def test_a_swap_keeps_the_look_and_a_face_behind_it_goes_by_the_new_lot(self):
        log = (("face", "e"), ("go", 1), SWAP, ("go", 1), ("right",), ("face", "e"), ("go", 3), SWAP, SWAP, ("face", "e"))
        for one in range(8):
            for other in range(8):
                first, then, last = TRUE[one][1], TRUE[other][1], TRUE[7 - one][1]
                gone = tuple(2 * part for part in STEPS[first])
                far = tuple(part + 3 * more for part, more in zip(gone, STEPS[then]))
                right = "nesw"[("nesw".index(first) + 1) % 4]
                self.tracks(log, (one, other, one, 7 - one), (
                    ((0, 0), first), (STEPS[first], first), (STEPS[first], first), (gone, first), (gone, right),
                    (gone, then), (far, then), (far, then), (far, then), (far, last)))

    def test_a_longer_log(self):
        log = (
            ("bare",), ("face", "n"), ("go", 3), ("right",), ("go", 2), SWAP, ("go", 1), ("face", "w"), ("go", 9),
            ("back",), ("left",), ("go", 4), ("bump",))
        self.tracks(log, (4, 2), (
            ((0, 0), ""), ((0, 0), "n"), ((0, 3), "n"), ((0, 3), "e"), ((2, 3), "e"), ((2, 3), "e"), ((3, 3), "e"),
            ((3, 3), "e"), ((12, 3), "e"), ((12, 3), "w"), ((12, 3), "s"), ((12, -1), "s"), ((12, -1), "s")))


class Facts(Told):
    def test_the_log_of_none(self):
        for lot in range(8):
            self.tells((), (lot,), ())

    def test_entries_without_facts(self):
        log = (SWAP, ("face", "n"), ("left",), ("right",), ("back",), SWAP)
        self.tells(log, (1, 2, 3), ())

    def test_sign_and_bare_ahead_of_the_first_face(self):
        log = (("sign", "Oak"), ("bare",), ("sign", "oak"))
        for lot in range(8):
            self.tells(log, (lot,), (
                (0, "sign", (0, 0), "Oak"), (1, "bare", (0, 0), ""), (2, "sign", (0, 0), "oak")))

    def test_go_each_way_is_named_by_its_southern_or_western_end(self):
        for letter, ways in (
            ("n", [((0, 0), "n"), ((0, 1), "n"), ((0, 2), "n")]),
            ("e", [((0, 0), "e"), ((1, 0), "e"), ((2, 0), "e")]),
            ("s", [((0, -1), "n"), ((0, -2), "n"), ((0, -3), "n")]),
            ("w", [((-1, 0), "e"), ((-2, 0), "e"), ((-3, 0), "e")]),
        ):
            log = (("face", letter), ("go", 3))
            self.tells(log, (0,), tuple([(1, "open", place, side) for place, side in ways]))
            log = (("face", letter), ("go", 1), ("bare",), ("go", 2))
            here = STEPS[letter]
            self.tells(log, (0,), (
                (1, "open", *ways[0]), (2, "bare", here, ""), (3, "open", *ways[1]), (3, "open", *ways[2])))

    def test_go_of_nine(self):
        told = facts((("face", "w"), ("go", 9)), (0,))
        self.same(told, tuple([(1, "open", (-1 - done, 0), "e") for done in range(9)]))

    def test_bump_each_way(self):
        for letter, place, side in (("n", (0, 0), "n"), ("e", (0, 0), "e"), ("s", (0, -1), "n"), ("w", (-1, 0), "e")):
            self.tells((("face", letter), ("bump",)), (0,), ((1, "shut", place, side),))
        self.tells((("face", "w"), ("go", 1), ("left",), ("bump",)), (0,), (
            (1, "open", (-1, 0), "e"), (3, "shut", (-1, -1), "n")))

    def test_spy_at_one_and_nine_steps(self):
        for lot in range(8):
            for at, letter in enumerate("nesw"):
                east, north = STEPS[TRUE[lot][at]]
                log = (("face", letter), ("spy", 1, "oak"), ("spy", 9, "Oak"), ("sign", "elm"))
                self.tells(log, (lot,), (
                    (1, "sign", (east, north), "oak"), (2, "sign", (9 * east, 9 * north), "Oak"),
                    (3, "sign", (0, 0), "elm")))

    def test_behind_turns_and_a_swap(self):
        log = (("face", "n"), ("go", 2), SWAP, ("bump",), ("face", "n"), ("bump",), ("back",), ("spy", 3, "Elm"))
        for other in range(8):
            look = TRUE[other][0]
            bumped = {"n": ((0, 2), "n"), "e": ((0, 2), "e"), "s": ((0, 1), "n"), "w": ((-1, 2), "e")}[look]
            east, north = STEPS[look]
            self.tells(log, (0, other), (
                (1, "open", (0, 0), "n"), (1, "open", (0, 1), "n"), (3, "shut", (0, 2), "n"),
                (5, "shut", *bumped), (7, "sign", (-3 * east, 2 - 3 * north), "Elm")))

    def test_how_many_and_of_which_entries_does_not_hang_on_the_lots(self):
        log = (("sign", "A"), ("face", "s"), ("go", 4), ("bump",), SWAP, ("spy", 2, "b"), ("face", "e"), ("go", 2), ("bare",))
        entries = [0, 2, 2, 2, 2, 3, 5, 7, 7, 8]
        words = ["sign", "open", "open", "open", "open", "shut", "sign", "open", "open", "bare"]
        for one in range(8):
            for other in range(8):
                told = facts(log, (one, other))
                self.assertEqual([fact[0] for fact in told], entries)
                self.assertEqual([fact[1] for fact in told], words)

    def test_walks_at_random(self):
        chance = random.Random(11)
        for _ in range(300):
            log = oracle.random_log(chance, chance.randrange(41), chance.randrange(4))
            lots = tuple([chance.randrange(8) for _ in range(1 + log.count(SWAP))])
            self.tracks(log, lots, oracle.track(log, lots))
            self.tells(log, lots, oracle.facts(log, lots))


class Refused(unittest.TestCase):
    def refuses(self, log, lots, at):
        for call in (track, facts):
            for given in (tuple(lots), list(lots)):
                self.assertTrue(alike(caught(NoDealing, call, log, given).at, at), (log, at))
                self.assertTrue(alike(caught(NoDealing, call, lots=given, log=listed(log)).at, at), (log, at))

    def test_another_number_of_lots(self):
        for legs in (1, 2, 3, 6):
            log = (SWAP,) * (legs - 1) + (("face", "n"),)
            for many in range(9):
                if many != legs:
                    self.refuses(log, (0,) * many, legs)
                    self.refuses(log, (8,) * many, legs)
                    self.refuses(log, (None,) * many, legs)
        self.refuses((), (), 1)
        self.refuses((), (0, 0), 1)
        self.refuses((), ("n", [], True), 1)

    def test_something_that_is_no_lot_at_each_place(self):
        for thing in no_lots():
            self.refuses((), (thing,), 0)
            self.refuses((("face", "n"), ("go", 3)), (thing,), 0)
            for at in range(3):
                lots = [0, 7, 4]
                lots[at] = thing
                self.refuses((SWAP, ("face", "n"), SWAP, ("go", 1)), lots, at)

    def test_the_first_of_several(self):
        log = (SWAP,) * 3
        self.refuses(log, (0, True, None, 8), 1)
        self.refuses(log, (7, 3, [], "a"), 2)
        self.refuses(log, (-1, 8, 9, 10), 0)

    def test_a_leg_without_entries_needs_a_lot_too(self):
        self.refuses((SWAP, SWAP), (0, 0), 3)
        self.refuses((SWAP, SWAP), (0, 0, 8), 2)


if __name__ == "__main__":
    unittest.main()
