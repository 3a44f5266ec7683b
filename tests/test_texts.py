"""Points 36 and 37: texts of entries, logs, dealings and atlases, and texts that are read."""

import random
import re
import unittest

from tests import oracle
from tests.samples import FAR, alike, caught, listed
from wayneedle.atlas import Atlas
from wayneedle.errors import NoText
from wayneedle.texts import (
    atlas_text, dealing_text, entry_text, log_text, read_atlas, read_dealing, read_entry, read_log)

FACE = ("face", "n")

BOX = (2, 1, 0, 1, 0, 0, 3, 0)

ENTRIES = {
    "face n": ("face", "n"), "face e": ("face", "e"), "face s": ("face", "s"), "face w": ("face", "w"),
    "left": ("left",), "right": ("right",), "back": ("back",), "bump": ("bump",), "bare": ("bare",), "swap": ("swap",),
    "go 1": ("go", 1), "go 3": ("go", 3), "go 9": ("go", 9), "sign Oak": ("sign", "Oak"), "sign oak": ("sign", "oak"),
    "sign a": ("sign", "a"), "sign A": ("sign", "A"), "sign Abcdefgh": ("sign", "Abcdefgh"), "spy 2 oak": ("spy", 2, "oak"),
    "spy 1 Oak": ("spy", 1, "Oak"), "spy 9 n": ("spy", 9, "n"), "sign bare": ("sign", "bare"), "sign sign": ("sign", "sign"),
}

NO_ENTRIES = (
    "", " ", "-", "left ", " left", "left left", "Left", "lefts", "lef", "left;", "left; right", "left;right", "face", "face ",
    "face  n", "face N", "face ne", "face 1", "face n ", " face n", "go", "go ", "go 0", "go 10", "go 03", "go 3 ", "go  3",
    "go -1", "go +1", "go 1.0", "go one", "go 3 3", "go 3 Oak", "sign", "sign ", "sign oAk", "sign OAK", "sign Oak ", "sign  Oak",
    "sign abcdefghi", "sign O1", "sign Oak Elm", "sign 3", "spy", "spy 2", "spy Oak", "spy Oak 2", "spy 2 ", "spy 02 Oak",
    "spy 0 Oak", "spy 10 Oak", "spy 2 Oak ", "spy 2  Oak", "spy 2 oAk", "spy 2 Oak 2", "swap 1", "bare bare", "bump1", "nix",
    "go " + "1" * 30, "go 1" + "0" * 29, "~" * 4000, "left\n", "\nleft", "go\n3", "go\t3", "('left',)",
)


class Entries(unittest.TestCase):
    def test_each_kind(self):
        for text, entry in ENTRIES.items():
            self.assertTrue(alike(entry_text(entry), text))
            self.assertTrue(alike(entry_text(list(entry)), text))
            self.assertTrue(alike(entry_text(entry=entry), text))
            self.assertTrue(alike(read_entry(text), entry))
            self.assertTrue(alike(read_entry(text=text), entry))

    def test_texts_that_are_none(self):
        for text in NO_ENTRIES:
            self.assertTrue(alike(vars(caught(NoText, read_entry, text))["at"], 0), text)
            self.assertEqual(vars(caught(NoText, read_entry, text=text)), {"at": 0})


class Logs(unittest.TestCase):
    def asks(self, text, log):
        self.assertTrue(alike(log_text(log), text))
        self.assertTrue(alike(log_text(log=listed(log)), text))
        self.assertTrue(alike(read_log(text), log))
        self.assertTrue(alike(read_log(text=text), log))

    def test_none(self):
        self.asks("-", ())

    def test_several_entries(self):
        self.asks("face n", (FACE,))
        self.asks("sign Oak; face n; go 3; left; spy 2 oak", (("sign", "Oak"), FACE, ("go", 3), ("left",), ("spy", 2, "oak")))
        self.asks("swap; bare; swap", (("swap",), ("bare",), ("swap",)))
        self.asks("; ".join(["face n"] + list(ENTRIES)), (FACE, *ENTRIES.values()))

    def test_long(self):
        self.asks("; ".join(["face n"] + ["go 9"] * 39), (FACE,) + (("go", 9),) * 39)
        self.asks("; ".join(["face n"] * 400), (FACE,) * 400)

    def refuses(self, text, at):
        self.assertTrue(alike(caught(NoText, read_log, text).at, at), text)
        self.assertEqual(vars(caught(NoText, read_log, text=text)), {"at": at}, text)

    def test_the_first_part_that_is_no_entry(self):
        for text in NO_ENTRIES:
            if text not in ("-", "left; right"):
                self.refuses(text, 0)
                if not text.endswith(";"):
                    self.refuses(text + "; face n", 0)
                    self.refuses(f"face n; {text}; nix", 1)
                self.refuses(f"face n; left; {text}", 2)
        self.refuses("-; face n", 0)
        self.refuses("face n; -", 1)
        self.refuses("--", 0)
        self.refuses("- ", 0)
        self.refuses(" -", 0)
        self.refuses("", 0)
        self.refuses("; ", 0)
        self.refuses("face n; ", 1)
        self.refuses("; face n", 0)
        self.refuses("face n; ; left", 1)
        self.refuses("face n;left", 0)
        self.refuses("face n;  left", 1)
        self.refuses("face n ; left", 0)
        self.refuses("face n;; left", 0)
        self.refuses("face n; left\n", 1)
        self.refuses("face n\nleft", 0)

    def test_a_part_that_needs_a_face(self):
        for text in ("left", "right", "back", "go 3", "bump", "spy 2 Oak"):
            self.refuses(text, 0)
            self.refuses(text + "; face n", 0)
            self.refuses("sign Oak; bare; swap; " + text, 3)
            self.refuses(f"sign Oak; {text}; nix", 1)
            self.refuses(f"nix; {text}", 0)
            self.assertEqual(len(read_log("swap; face n; " + text)), 3)

    def test_no_face_is_needed(self):
        self.asks("sign Oak; bare; swap; sign hut", (("sign", "Oak"), ("bare",), ("swap",), ("sign", "hut")))


class Dealings(unittest.TestCase):
    def asks(self, text, dealing):
        self.assertTrue(alike(dealing_text(dealing), text))
        self.assertTrue(alike(dealing_text(dealing=list(dealing)), text))
        self.assertTrue(alike(read_dealing(text), dealing))
        self.assertTrue(alike(read_dealing(text=text), dealing))

    def test_lots(self):
        self.asks("-", ())
        self.asks("0", (0,))
        self.asks("0 7 7 3", (0, 7, 7, 3))
        self.asks("0 1 2 3 4 5 6 7", (0, 1, 2, 3, 4, 5, 6, 7))
        self.asks(" ".join(["5"] * 2000), (5,) * 2000)

    def test_the_first_word_that_is_no_lot(self):
        for text, at in (
            ("", 0), (" ", 0), ("8", 0), ("9", 0), ("00", 0), ("01", 0), ("10", 0), ("-1", 0), ("+1", 0), ("a", 0), ("0 ", 1), (" 0", 0),
            ("0  1", 1), ("0 1 ", 2), ("0,1", 0), ("0 8", 1), ("0 1 2 x 8", 3), ("0 -", 1), ("- 0", 0), ("--", 0), ("- ", 0), (" -", 0),
            ("0 1\n", 1), ("0\n1", 0), ("\n", 0), ("0 07", 1), ("1" * 31, 0), ("0 " + "1" * 30, 1), ("1.0", 0), ("0 1 2 03", 3),
        ):
            self.assertTrue(alike(caught(NoText, read_dealing, text).at, at), text)
            self.assertEqual(vars(caught(NoText, read_dealing, text=text)), {"at": at}, text)


class Atlases(unittest.TestCase):
    def asks(self, text, box, logs):
        atlas = Atlas(box, logs)
        self.assertTrue(alike(atlas_text(atlas), text), atlas_text(atlas))
        self.assertTrue(alike(atlas_text(atlas=atlas), text))
        for told in (read_atlas(text), read_atlas(text=text)):
            self.assertTrue(told == atlas and isinstance(told, Atlas))
            self.assertTrue(alike((told.box, told.names, told.logs), (atlas.box, atlas.names, atlas.logs)))

    def test_without_walkers(self):
        self.asks("box 2 1 0 1 0 0 3 0", BOX, ())
        self.asks("box 0 0 0 0 0 0 0 0", (0,) * 8, ())
        self.asks("box 10 100 " + " ".join(["0"] * 6), (10, 100, 0, 0, 0, 0, 0, 0), ())

    def test_thirty_figures(self):
        self.asks("box " + " ".join(["9" * 30] * 8), (FAR,) * 8, ())
        self.asks("box 1" + "0" * 29 + " 0" * 7, (10 ** 29, 0, 0, 0, 0, 0, 0, 0), ())
        self.refuses("box 1" + "0" * 30 + " 0" * 7, 0)
        self.refuses("box" + " 0" * 7 + " " + "1" * 31, 0)

    def test_walkers(self):
        self.asks("box 2 1 0 1 0 0 3 0\nann: -", BOX, (("ann", ()),))
        self.asks("box 2 1 0 1 0 0 3 0\nann: face n; go 3\nbob: -\ncy: sign Oak", BOX, (
            ("cy", (("sign", "Oak"),)), ("ann", (FACE, ("go", 3))), ("bob", ())))
        self.asks("box 2 1 0 1 0 0 3 0\na: -\nab: -\nb: swap", BOX, (("a", ()), ("ab", ()), ("b", (("swap",),))))

    def refuses(self, text, at):
        self.assertTrue(alike(caught(NoText, read_atlas, text).at, at), text)
        self.assertEqual(vars(caught(NoText, read_atlas, text=text)), {"at": at}, text)

    def test_a_first_line_that_is_no_box(self):
        for line in (
            "", " ", "box", "box ", "box 0 0 0 0 0 0 0", "box 0 0 0 0 0 0 0 0 0", "box 0 0 0 0 0 0 0 ", "box 0 0 0 0 0 0 0 0 ",
            " box 0 0 0 0 0 0 0 0", "box  0 0 0 0 0 0 0 0", "box 0 0 0  0 0 0 0 0", "Box 0 0 0 0 0 0 0 0", "bo 0 0 0 0 0 0 0 0",
            "0 0 0 0 0 0 0 0", "box 00 0 0 0 0 0 0 0", "box 0 0 0 01 0 0 0 0", "box 0 0 0 -1 0 0 0 0", "box 0 0 0 a 0 0 0 0",
            "box 0 0 0 0 0 0 0 +1", "box 0 0 0 1.0 0 0 0 0", "ann: -", "-", "box: 0 0 0 0 0 0 0 0", "box 0,0 0 0 0 0 0 0 0",
        ):
            for more in ("", "\nann: -", "\nnix"):
                self.refuses(line + more, 0)

    def test_a_line_that_is_no_walker(self):
        box = "box 0 0 0 0 0 0 0 0"
        for line in (
            "", " ", "ann", "ann:", "ann: ", "ann:-", "ann : -", " ann: -", "ann:  -", "ann: - ", "ann: --", "Ann: -", ": -", "1: -",
            "abcdefghi: -", "ann: left", "ann: face n; nix", "ann: nix", "ann: face n;left", "ann: face n; ", "ann: -: -", "ann- -",
            "ann; -", "ann: sign Oak; left", "ann: bob: -", box, "an n: -",
        ):
            self.refuses(f"{box}\n{line}", 1)
            self.refuses(f"{box}\n{line}\nbob: -", 1)
            self.refuses(f"{box}\n{line}\n{line}", 1)
            self.refuses(f"{box}\na: -\n{line}", 2)
            self.refuses(f"{box}\na: -\nab: swap\n{line}\nzoe: -", 3)

    def test_names_that_do_not_rise(self):
        box = "box 0 0 0 0 0 0 0 0"
        self.refuses(box + "\nann: -\nann: -", 2)
        self.refuses(box + "\nbob: -\nann: -", 2)
        self.refuses(box + "\nann: -\ncy: -\nbob: -\nnix", 3)
        self.refuses(box + "\nab: -\na: -", 2)
        self.refuses(box + "\nann: -\nbob: -\nann: -", 3)

    def test_line_feeds(self):
        box = "box 0 0 0 0 0 0 0 0"
        self.refuses(box + "\n", 1)
        self.refuses("\n" + box, 0)
        self.refuses(box + "\nann: -\n", 2)
        self.refuses(box + "\n\nann: -", 1)
        self.refuses(box + "\r\nann: -", 0)
        self.refuses("", 0)
        self.refuses("\n", 0)

    def test_each_text_is_read_back_at_random(self):
        chance = random.Random(71)
        for _ in range(100):
            box, logs, dealing = oracle.random_case(chance, liars=chance.randrange(2))
            self.asks(self.written(box, logs), box, tuple(logs.items()))
            for log in logs.values():
                self.assertTrue(alike(read_log(log_text(log)), log))
                for entry in log:
                    self.assertTrue(alike(read_entry(entry_text(entry)), entry))
            self.assertTrue(alike(read_dealing(dealing_text(dealing)), dealing))

    def written(self, box, logs):
        """The text, written in another way."""
        lines = ["box"]
        for many in box:
            lines[0] += " %d" % many
        for name in sorted(logs):
            line = ""
            for entry in logs[name]:
                line += ("; " if line else "") + " ".join(map(str, entry))
            lines.append(name + ": " + (line or "-"))
        return "\n".join(lines)


class Spoilt(unittest.TestCase):
    """Texts with one sign put in, set or left out: they are read just where the forms below say so."""

    ENTRY = r"face [nesw]|left|right|back|bump|bare|swap|go [1-9]|(sign|spy [1-9]) [A-Za-z][a-z]{0,7}"

    NUMBER = r"(0|[1-9][0-9]{0,29})"

    def spoilt(self, chance, text):
        at = chance.randrange(len(text) + 1)
        sign = chance.choice(" -;:\n0123456789abnNOAs")
        return chance.choice((text[:at] + sign + text[at:], text[:at] + sign + text[at + 1:], text[:at] + text[at + 1:]))

    def first_bad_part(self, text):
        """The number of the first part of a log's text that is wrong; None where none is."""
        if text == "-":
            return None
        faced = False
        for at, part in enumerate(text.split("; ")):
            needs = part.split(" ")[0] in ("left", "right", "back", "go", "bump", "spy")
            if not re.fullmatch(self.ENTRY, part) or (needs and not faced):
                return at
            faced = faced or part.startswith("face")
        return None

    def first_bad_line(self, text):
        last = ""
        for at, line in enumerate(text.split("\n")):
            if at == 0:
                if not re.fullmatch("box" + (" " + self.NUMBER) * 8, line):
                    return 0
                continue
            found = re.fullmatch(r"([a-z]{1,8}): (.*)", line)
            if not found or self.first_bad_part(found[2]) is not None or found[1] <= last:
                return at
            last = found[1]
        return None

    def asks(self, read, write, text, wanted):
        if wanted is None:
            self.assertEqual(write(read(text)), text)
        else:
            self.assertEqual(caught(NoText, read, text).at, wanted, text)

    def test_at_random(self):
        chance = random.Random(72)
        verdicts = {True: 0, False: 0}
        for _ in range(400):
            box, logs, dealing = oracle.random_case(chance)
            atlas = Atlas(box, list(logs.items()))
            for log in list(logs.values())[:2]:
                text = self.spoilt(chance, log_text(log))
                wanted = self.first_bad_part(text)
                verdicts[wanted is None] += 1
                self.asks(read_log, log_text, text, wanted)
                for entry in log[:3]:
                    text = self.spoilt(chance, entry_text(entry))
                    self.asks(read_entry, entry_text, text, None if re.fullmatch(self.ENTRY, text) else 0)
            text = self.spoilt(chance, dealing_text(dealing))
            words = text.split(" ") if text != "-" else []
            bad = [at for at, word in enumerate(words) if not re.fullmatch("[0-7]", word)]
            self.asks(read_dealing, dealing_text, text, bad[0] if bad else None)
            text = self.spoilt(chance, atlas_text(atlas))
            wanted = self.first_bad_line(text)
            verdicts[wanted is None] += 1
            self.asks(read_atlas, atlas_text, text, wanted)
        self.assertGreater(min(verdicts.values()), 40)


if __name__ == "__main__":
    unittest.main()
