"""Points 8, 9 and 10: names, signs, entries, logs and legs."""

import copy
import unittest

from tests.samples import FAR, alike, caught, listed, no_texts
from wayneedle.errors import BadLog
from wayneedle.logs import held_log, is_lone, is_name, is_sign, legs_in

SMALL = ["a", "z", "m", "oak", "abcdefgh", "stuvwxyz", "zzzzzzzz", "true", "left"]

LONE = ["A", "Z", "M", "Oak", "Abcdefgh", "Zyxwvuts", "Aa", "Zz"]

NEITHER = [
    "", " ", "abcdefghi", "Abcdefghi", "a" * 4000, "A" + "b" * 4000,
    "oAk", "oaK", "OAk", "OaK", "OAK", "AB", "aA", "aZ", "abcdefgH",
    "1", "7oak", "oak1", "Oak1", "o4k", "O4k", "oak ", " oak", "o ak", "Oak ", " Oak", "O ak", "\n", "oak\n", "Oak\n",
    "`", "{", "@", "[", "a`", "a{", "a@", "a[", "A`", "A{", "-", "o-k", "oak-", "O_k", "_", "o.k", ".", ";", "~", "!",
    "\u00e4", "o\u00e4k", "\u00c4", "\u00c4a", "A\u00e4", "\u212a", "\u017f",
]

FACE = ("face", "n")

WORDS_ALONE = ("left", "right", "back", "bump", "bare", "swap")

BEHIND_A_FACE = [
    ("left",), ("right",), ("back",), ("bump",), ("go", 1), ("go", 9), ("spy", 1, "oak"), ("spy", 9, "Oak"),
]

WITHOUT_A_FACE = [("bare",), ("swap",), ("sign", "oak"), ("sign", "Oak")]


def no_entries():
    """Things that are no entries, also behind a face, made anew at each call."""
    words = [*WORDS_ALONE, "face", "go", "sign", "spy"]
    found = no_texts() + words + ["", "n", "go 3", "face n"]
    found += [(), ((),), ("",), ("Left",), ("left ",), ("ahead",), ("look", "n"), ("", "n"), ("o",), ("lef",)]
    found += [("face",), ("go",), ("sign",), ("spy",), ("spy", 2), ("spy", "oak"), ("spy", "oak", 2)]
    found += [(word, 3) for word in words if word != "go"]
    found += [(word, "n") for word in words if word not in ("face", "sign")]
    found += [(word, "oak") for word in words if word != "sign"]
    found += [(word, "") for word in words]
    found += [(word, None) for word in words]
    found += [(word, 3, "oak") for word in words if word != "spy"]
    found += [(word, word, word, word) for word in words]
    found += [("face", "n", "n"), ("go", 3, 3), ("sign", "oak", "oak"), ("spy", 2, "oak", "oak"), ("spy", 2, "oak", 2)]
    found += [("left", ()), ("swap", []), ("bare", "")]
    found += [("face", letter) for letter in ("N", "E", "ne", "nesw", "es", "x", " n", "n ", "a", "north")]
    found += [("go", many) for many in (0, 10, 11, -1, -9, FAR, -FAR, True, False, "1", "3", (1,), [3])]
    found += [("spy", many, "oak") for many in (0, 10, -1, FAR, -FAR, True, False, None, "2", "", (2,), [])]
    found += [("sign", sign) for sign in NEITHER]
    found += [("spy", 2, sign) for sign in NEITHER]
    for thing in no_texts():
        found += [(thing,), ("face", thing), ("sign", thing), ("spy", 2, thing), ("spy", thing, thing)]
        found += [(thing, "n"), (thing, 3), (thing, "oak"), (thing, 2, "oak"), ("left", thing), (thing, "left")]
    return found


class Texts(unittest.TestCase):
    def told(self, thing):
        before = copy.deepcopy(thing)
        told = (is_name(thing), is_sign(thing), is_lone(thing))
        self.assertTrue(alike(thing, before))
        for truth in told:
            self.assertIs(type(truth), bool)
        return told

    def test_small(self):
        for text in SMALL:
            self.assertEqual(self.told(text), (True, True, False), text)

    def test_lone(self):
        for text in LONE:
            self.assertEqual(self.told(text), (False, True, True), text)

    def test_neither(self):
        for text in NEITHER:
            self.assertEqual(self.told(text), (False, False, False), text)

    def test_no_texts(self):
        for thing in no_texts():
            self.assertEqual(self.told(thing), (False, False, False), thing)
            self.assertEqual(self.told([thing]), (False, False, False), thing)

    def test_each_letter_and_length(self):
        for at in range(26):
            small, great = chr(ord("a") + at), chr(ord("A") + at)
            for many in range(12):
                right = 1 <= many <= 8
                self.assertEqual(self.told(small * many), (right, right, False))
                self.assertEqual(self.told((great + small * many)[:many]), (False, right, right))

    def test_each_other_sign(self):
        for code in range(32, 127):
            sign = chr(code)
            if not sign.isalpha():
                for text in (sign, sign + "a", "a" + sign, "A" + sign, "a" + sign + "a", "Aa" + sign):
                    self.assertEqual(self.told(text), (False, False, False), text)

    def test_by_names(self):
        self.assertEqual((is_name(thing="oak"), is_sign(thing="oak"), is_lone(thing="Oak")), (True, True, True))


class Held(unittest.TestCase):
    def holds(self, log):
        self.assertTrue(alike(held_log(log), log), log)
        given = listed(log)
        told = held_log(given)
        self.assertTrue(alike(given, listed(log)), log)
        for entry in given:
            entry.append("more")
        given.append(("left",))
        self.assertTrue(alike(told, log), log)

    def test_none(self):
        self.holds(())

    def test_those_that_need_no_face(self):
        for entry in WITHOUT_A_FACE:
            self.holds((entry,))
        self.holds(tuple(WITHOUT_A_FACE))

    def test_face(self):
        for letter in "nesw":
            self.holds((("face", letter),))

    def test_those_behind_a_face(self):
        for entry in BEHIND_A_FACE:
            self.holds((FACE, entry))
            self.holds((("bare",), FACE, ("sign", "Oak"), entry, entry))
        self.holds((FACE, *BEHIND_A_FACE, *WITHOUT_A_FACE))

    def test_each_number_of_steps(self):
        for many in range(1, 10):
            self.holds((FACE, ("go", many), ("spy", many, "Oak"), ("spy", many, "oak")))

    def test_each_sign(self):
        for sign in SMALL + LONE:
            self.holds((FACE, ("sign", sign), ("spy", 3, sign)))

    def test_no_face_is_needed_anew_behind_a_swap(self):
        for entry in BEHIND_A_FACE:
            self.holds((FACE, ("swap",), entry))
            self.holds((("swap",), FACE, ("swap",), ("swap",), entry))

    def test_forty_entries(self):
        self.holds((FACE,) + (("go", 3),) * 39)

    def test_tuples_and_lists_among_one_another(self):
        self.assertTrue(alike(held_log([["face", "e"], ("go", 2), ["left"]]), (("face", "e"), ("go", 2), ("left",))))
        self.assertTrue(alike(held_log((["face", "e"], ("go", 2))), (("face", "e"), ("go", 2))))

    def test_what_was_told_may_be_handed_in_again(self):
        log = held_log([["face", "s"], ["go", 9], ["swap"], ["spy", 4, "Elm"]])
        self.assertTrue(alike(held_log(log), log))

    def test_by_name(self):
        self.assertEqual(held_log(entries=[["bare"]]), (("bare",),))


class Refused(unittest.TestCase):
    def refuses(self, entries, at):
        for given in (entries, list(entries)):
            why = caught(BadLog, held_log, given)
            self.assertTrue(alike((why.name, why.at), ("", at)), (entries, why.name, why.at))

    def test_no_entries_at_the_beginning(self):
        for thing in no_entries():
            self.refuses((thing,), 0)
            self.refuses((listed(thing),), 0)

    def test_no_entries_behind_a_face(self):
        for thing in no_entries():
            self.refuses((FACE, thing), 1)
            self.refuses((FACE, ("go", 3), listed(thing), ("bare",)), 2)

    def test_the_first_of_several_is_told(self):
        self.refuses((FACE, ("go", 0), ("go", 10)), 1)
        self.refuses((("bare",), ("left",), None), 1)
        self.refuses((("bare",), None, ("left",)), 1)
        self.refuses((FACE, ("go", 3), ("swap",), ("face", "x"), ()), 3)

    def test_no_face_ahead(self):
        for entry in BEHIND_A_FACE:
            self.refuses((entry,), 0)
            self.refuses((listed(entry),), 0)
            self.refuses((entry, FACE), 0)
            self.refuses((*WITHOUT_A_FACE, entry, FACE), 4)
            self.refuses((("swap",), entry), 1)

    def test_what_is_no_face_does_not_count_as_one(self):
        for thing in [("face",), ("face", "x"), ("face", "n", "n"), "face"]:
            self.refuses((thing, ("go", 3)), 0)

    def test_by_name(self):
        self.assertEqual(caught(BadLog, held_log, entries=[["go", 1]]).at, 0)


class Legs(unittest.TestCase):
    def test_none_to_several_swaps(self):
        swap = ("swap",)
        for log, many in [
            ((), 1), ((FACE, ("go", 3)), 1), ((swap,), 2), ((swap, swap), 3), ((FACE, swap), 2), ((swap, FACE), 2),
            ((FACE, swap, ("go", 3), swap, ("bare",)), 3), ((swap, swap, FACE, swap, ("left",), swap, swap), 6),
            ((("sign", "swap"), FACE, ("spy", 2, "swap")), 1), ((swap,) * 40, 41),
        ]:
            self.assertTrue(alike(legs_in(log), many), log)
            given = listed(log)
            self.assertEqual(legs_in(given), many)
            self.assertEqual(given, listed(log))
            self.assertEqual(legs_in(held_log(log)), many)

    def test_by_name(self):
        self.assertEqual(legs_in(log=(("swap",),)), 2)


if __name__ == "__main__":
    unittest.main()
