"""Points 38 to 40: a desk, its lines and its answers."""

import random
import unittest

from tests import oracle
from tests.samples import FAR, alike, caught
from wayneedle.blame import blamed, question
from wayneedle.book import Book
from wayneedle.desk import FORMS, OF_ALL_BOOKS, OF_ONE_BOOK, Desk
from wayneedle.errors import (
    BadLog, NeedleError, NoBook, NoFit, NoLeg, NoLine, NoLink, NoSign, NoText, NothingDone, NothingUndone, NoWalker, NoWatch,
    TooMany, Twice)
from wayneedle.fits import fits
from wayneedle.maps import drawn
from wayneedle.sure import lots_left, surely
from wayneedle.texts import atlas_text, log_text
from wayneedle.ways import road, sure_way

NORTH, SOUTH = "sign Oak; face n; go 1; sign Elm", "sign Oak; face s; go 1; sign Elm"

ZEROS = " ".join(["0"] * 8)

# One line of each kind, right in its form.
LINES = (
    "book new 1 1 1 0 0 0 0 0", "copy b new", "close b", "put b cy face n; go 1", "drop b ann", "note b ann left", "rename b ann eve",
    "refill b 1 0 0 0 0 0 0 0", "undo b", "again b", "stop b 0", "books", "deeds b", "same b c", "text b", "fits b", "first b",
    "left b ann 0", "sure b Oak Elm", "drawn b ann", "way b Oak Elm", "lead b ann 0 Oak Elm", "blamed b", "question b",
    "watch b Oak Elm", "heard b 0",
)


class Told(unittest.TestCase):
    def setUp(self):
        self.desk = Desk()
        self.tells("book b 1 1 1 0 0 0 0 0", "done")
        self.tells("put b ann " + NORTH, "done")

    def tells(self, line, wanted):
        self.assertTrue(alike(self.desk.tell(line), wanted), line)

    def state(self):
        """All that the desk can tell of its books."""
        names = self.desk.tell("books").split()
        rows = [names]
        for name in names if names != ["none"] else []:
            rows.append((name, self.desk.tell("text " + name), self.desk.tell("deeds " + name), self.heard(name)))
        return rows

    def heard(self, name):
        rows = []
        while True:
            try:
                rows.append(self.desk.tell(f"heard {name} {len(rows)}"))
            except NoWatch:
                return rows

    def refuses(self, error, given, **fields):
        before = self.state()
        self.assertEqual(vars(caught(error, self.desk.tell, given)), fields, given)
        self.assertEqual(vars(caught(error, self.desk.tell, line=given)), fields, given)
        self.assertEqual(self.state(), before)


class Deeds(Told):
    def test_every_line_has_an_answer(self):
        self.assertEqual(set(FORMS), set(OF_ALL_BOOKS) | set(OF_ONE_BOOK))
        self.assertEqual(set(OF_ALL_BOOKS) & set(OF_ONE_BOOK), set())
        self.assertEqual(set(FORMS), {line.split()[0] for line in LINES})

    def test_by_name(self):
        self.assertEqual(Desk().tell(line="books"), "none")

    def test_tell_stands_in_the_class_itself(self):
        self.assertIn("tell", vars(Desk))

    def test_book_copy_close(self):
        self.tells("books", "b")
        self.tells("book abcdefgh " + ZEROS, "done")
        self.tells("copy b a", "done")
        self.tells("books", "a abcdefgh b")
        self.tells("close b", "done")
        self.tells("books", "a abcdefgh")
        self.tells("close a", "done")
        self.tells("close abcdefgh", "done")
        self.tells("books", "none")
        # A name that was closed may be given anew, to a book without deeds.
        self.tells("book b 0 0 0 0 0 0 0 1", "done")
        self.tells("text b", "box 0 0 0 0 0 0 0 1")
        self.tells("deeds b", "0")

    def test_numbers_of_thirty_figures(self):
        self.tells(f"book far {FAR} 0 0 0 0 0 0 {FAR}", "done")
        self.tells("text far", f"box {FAR} 0 0 0 0 0 0 {FAR}")
        self.tells(f"refill far 0 {FAR} 0 0 0 0 0 0", "done")
        self.tells("text far", f"box 0 {FAR} 0 0 0 0 0 0")

    def test_the_deeds_of_a_book(self):
        box = "box 1 1 1 0 0 0 0 0\n"
        self.tells("put b bob -", "done")
        self.tells("text b", box + "ann: " + NORTH + "\nbob: -")
        self.tells("note b bob face w", "done")
        self.tells("note b bob spy 2 Oak", "done")
        self.tells("text b", box + "ann: " + NORTH + "\nbob: face w; spy 2 Oak")
        self.tells("rename b ann zoe", "done")
        self.tells("text b", box + "bob: face w; spy 2 Oak\nzoe: " + NORTH)
        self.tells("drop b bob", "done")
        self.tells("text b", box + "zoe: " + NORTH)
        self.tells("refill b 0 0 0 0 0 0 0 2", "done")
        self.tells("text b", "box 0 0 0 0 0 0 0 2\nzoe: " + NORTH)
        self.tells("deeds b", "7")
        self.tells("undo b", "done")
        self.tells("undo b", "done")
        self.tells("deeds b", "5")
        self.tells("text b", box + "bob: face w; spy 2 Oak\nzoe: " + NORTH)
        self.tells("again b", "done")
        self.tells("text b", box + "zoe: " + NORTH)
        self.tells("deeds b", "6")

    def test_a_copy_goes_its_own_way(self):
        self.tells("watch b Oak Elm", "0")
        self.tells("put b bob -", "done")
        self.tells("undo b", "done")
        self.tells("copy b c", "done")
        self.tells("same b c", "yes")
        self.tells("again c", "done")
        self.tells("same b c", "no")
        self.tells("same c b", "no")
        self.tells("refill c 1 0 0 0 0 0 0 0", "done")
        self.tells("deeds c", "3")
        self.tells("heard c 0", "unlike, barred")
        self.tells("deeds b", "1")
        self.tells("heard b 0", "unlike")
        self.tells("text b", "box 1 1 1 0 0 0 0 0\nann: " + NORTH)
        self.tells("undo b", "done")
        self.tells("deeds c", "3")
        self.tells("close b", "done")
        self.tells("deeds c", "3")

    def test_two_desks(self):
        other = Desk()
        self.assertEqual(other.tell("books"), "none")
        self.assertEqual(other.tell("book b " + ZEROS), "done")
        self.assertEqual(other.tell("put b bob -"), "done")
        self.tells("text b", "box 1 1 1 0 0 0 0 0\nann: " + NORTH)
        self.tells("close b", "done")
        self.assertEqual(other.tell("books"), "b")


class Asks(Told):
    def test_same(self):
        self.tells("book c 1 1 1 0 0 0 0 0", "done")
        self.tells("same b c", "no")
        self.tells("put c ann " + NORTH, "done")
        self.tells("same b c", "yes")
        self.tells("same b b", "yes")
        self.tells("undo b", "done")
        self.tells("same b c", "no")

    def test_fits_and_first(self):
        self.tells("fits b", "3")
        self.tells("first b", "0")
        self.tells("put b bob " + SOUTH, "done")
        self.tells("fits b", "2")
        self.tells("first b", "0 2")
        self.tells("refill b 1 1 0 0 0 0 0 0", "done")
        self.tells("fits b", "0")
        self.tells("first b", "none")
        self.tells("book c " + ZEROS, "done")
        self.tells("fits c", "1")
        self.tells("first c", "-")

    def test_left(self):
        self.tells("put b bob " + SOUTH + "; swap", "done")
        self.tells("left b ann 0", "0 2")
        self.tells("left b bob 0", "0 2")
        self.tells("left b bob 1", "1")
        self.tells("refill b 1 1 0 0 0 0 0 0", "done")
        self.tells("left b bob 1", "none")
        self.refuses(NoLeg, "left b bob 2", name="bob", leg=2)
        self.refuses(NoLeg, f"left b ann {FAR}", name="ann", leg=FAR)
        self.refuses(NoWalker, "left b zoe 0", name="zoe")
        self.refuses(NoWalker, "left b zoe 7", name="zoe")

    def test_sure(self):
        self.tells("sure b Oak Elm", "unlike")
        self.tells("sure b Oak Oak", "apart 0 0")
        self.tells("refill b 0 0 0 1 0 0 0 0", "done")
        self.tells("sure b Oak Elm", "apart -1 0")
        self.tells("sure b Elm Oak", "apart 1 0")
        self.tells("put b bob sign Ash", "done")
        self.tells("sure b Oak Ash", "barred")
        self.tells("refill b 0 0 0 2 0 0 0 0", "done")
        self.tells("sure b Oak Ash", "unlinked")
        self.refuses(NoSign, "sure b oak Fir", sign="oak")
        self.refuses(NoSign, "sure b Oak Fir", sign="Fir")
        self.refuses(NoSign, "sure b Yew Fir", sign="Yew")

    def test_drawn(self):
        self.tells("drawn b ann", "E\n|\nO")
        self.tells("refill b 0 1 1 0 0 0 0 0", "done")
        self.tells("drawn b ann", "O-E")
        self.refuses(NoWalker, "drawn b zoe", name="zoe")
        self.tells("refill b " + ZEROS, "done")
        self.refuses(NoFit, "drawn b ann")
        self.refuses(NoFit, "drawn b zoe")

    def test_way(self):
        self.tells("way b Oak Elm", "n")
        self.tells("way b Elm Oak", "s")
        self.tells("way b Elm Elm", "here")
        self.tells("note b ann spy 2 Ash", "done")
        self.tells("way b Oak Ash", "none")
        self.tells("note b ann go 2", "done")
        self.tells("way b Oak Ash", "nnn")
        self.tells("refill b 0 0 1 1 0 0 0 0", "done")
        self.tells("way b Oak Ash", "sss")
        self.refuses(NoSign, "way b Oak Fir", sign="Fir")
        self.refuses(NoSign, "way b hut Fir", sign="hut")
        self.tells("refill b 0 0 1 1 0 0 0 0", "done")
        self.tells("put b bob sign Yew", "done")
        self.refuses(NoLink, "way b Oak Yew")
        self.tells("refill b " + ZEROS, "done")
        self.refuses(NoFit, "way b Oak Yew")
        self.refuses(NoFit, "way b Oak Fir")

    def test_lead(self):
        self.tells("lead b ann 0 Oak Elm", "n")
        self.tells("lead b ann 0 Elm Oak", "s")
        self.tells("lead b ann 0 Oak Oak", "here")
        self.tells("put b bob swap", "done")
        self.tells("lead b bob 0 Oak Elm", "none")
        self.tells("lead b ann 0 Oak Elm", "n")
        self.refuses(NoWalker, "lead b zoe 9 nix nix", name="zoe")
        self.refuses(NoLeg, "lead b bob 2 nix nix", name="bob", leg=2)
        self.refuses(NoSign, "lead b bob 1 nix Fir", sign="nix")
        self.tells("put b cy sign Yew", "done")
        self.refuses(NoLink, "lead b bob 1 Oak Yew")
        self.refuses(NoFit, "lead b bob 1 Oak Elm")
        self.tells("refill b 9 9 0 0 0 0 0 0", "done")
        self.refuses(TooMany, "lead b bob 1 Oak Elm", many=16)

    def test_blamed(self):
        self.tells("blamed b", "nobody")
        self.tells("refill b 3 0 0 0 0 0 0 0", "done")
        self.tells("put b bob " + SOUTH, "done")
        self.tells("blamed b", "ann, bob")
        self.tells("put b cy " + NORTH, "done")
        self.tells("blamed b", "bob, ann cy")
        self.tells("put b dora -", "done")
        self.tells("blamed b", "bob, ann cy")
        self.tells("refill b " + ZEROS, "done")
        self.tells("blamed b", "ann bob cy dora")

    def test_question(self):
        self.tells("question b", "ann 0 1")
        self.tells("put b bob swap", "done")
        self.tells("question b", "ann 0 2")
        self.tells("refill b " + ZEROS, "done")
        self.tells("question b", "none")
        self.tells("refill b 3 0 0 0 0 0 0 0", "done")
        self.tells("question b", "none")

    def test_watch_heard_stop(self):
        self.tells("watch b Oak Elm", "0")
        self.tells("watch b Elm Oak", "1")
        self.tells("watch b Oak Ash", "2")
        self.tells("heard b 0", "unlike")
        self.tells("heard b 2", "untold")
        self.tells("refill b 0 0 0 1 0 0 0 0", "done")
        self.tells("stop b 1", "done")
        self.tells("put b bob sign Ash", "done")
        self.tells("refill b 0 0 0 2 0 0 0 0", "done")
        self.tells("undo b", "done")
        self.tells("drop b ann", "done")
        self.tells("heard b 0", "unlike, apart -1 0, barred, apart -1 0, barred, untold")
        self.tells("heard b 1", "unlike, apart 1 0")
        self.tells("heard b 2", "untold, barred, unlinked, barred, untold")
        self.tells("deeds b", "4")
        self.refuses(NoWatch, "heard b 3", number=3)
        self.refuses(NoWatch, f"heard b {FAR}", number=FAR)
        self.refuses(NoWatch, "stop b 3", number=3)
        self.refuses(NoSign, "watch b oak elm", sign="oak")
        self.refuses(NoSign, "watch b Oak elm", sign="elm")
        self.tells("watch b Yew Fir", "3")


class NoLines(Told):
    def setUp(self):
        Told.setUp(self)
        self.tells("put b bob -", "done")
        self.tells("copy b c", "done")
        self.tells("watch b Oak Elm", "0")

    def no_line(self, line):
        self.refuses(NoLine, line, line=line)

    def test_first_words(self):
        for line in ("", " ", "  ", "nix", "Books", "BOOKS", "book", "boo", "bookss", "help b", "-", "b", "sures b Oak Elm", "spread b",
                     "~" * 4000, "books\n", "\nbooks", "asking b", "leads b ann 0 Oak Elm", "road b Oak Elm"):
            self.no_line(line)

    def test_the_count_of_words(self):
        for line in LINES:
            words = line.split(" ")
            free = words[0] in ("put", "note")
            for many in range(1, 4 if free else len(words)):
                self.no_line(" ".join(words[:many]))
            if not free:
                self.no_line(line + " " + (words[-1] if words[0] != "books" else "b"))
                self.no_line(line + " nix")
                self.no_line(line + " 0")

    def test_blanks(self):
        for line in LINES:
            self.no_line(" " + line)
            free = line.split(" ")[0] in ("put", "note")
            if not free:
                self.no_line(line + " ")
                self.no_line(line + "\n")
            words = line.split(" ")
            for at in range(1, 3 if free else len(words)):
                self.no_line(" ".join(words[:at]) + "  " + " ".join(words[at:]))
                self.no_line(" ".join(words[:at]) + "\t" + " ".join(words[at:]))
                self.no_line(" ".join([*words[:at], "", *words[at + 1:]]))

    def test_the_forms_of_names(self):
        for name in ("B", "Ann", "a1", "0", "abcdefghi", "-", "a-b", "b,", "b:"):
            for line in (
                "book {} " + ZEROS, "copy {} new", "copy b {}", "close {}", "put {} ann -", "put b {} -", "drop {} ann", "drop b {}",
                "note {} ann left", "note b {} left", "rename {} ann eve", "rename b {} eve", "rename b ann {}", "refill {} " + ZEROS,
                "undo {}", "again {}", "stop {} 0", "deeds {}", "same {} b", "same b {}", "text {}", "fits {}", "first {}",
                "left {} ann 0", "left b {} 0", "sure {} Oak Elm", "drawn {} ann", "drawn b {}", "way {} Oak Elm",
                "lead {} ann 0 Oak Elm", "lead b {} 0 Oak Elm", "blamed {}", "question {}", "watch {} Oak Elm", "heard {} 0",
            ):
                self.no_line(line.format(name))

    def test_the_forms_of_signs(self):
        for sign in ("OAK", "oAk", "Abcdefghi", "O1", "1", "-", "Oak,", "*"):
            for line in ("sure b {} Elm", "sure b Oak {}", "way b {} Elm", "way b Oak {}", "lead b ann 0 {} Elm", "lead b ann 0 Oak {}",
                         "watch b {} Elm", "watch b Oak {}"):
                self.no_line(line.format(sign))
        # Signs that are not lone are signs; the book and the functions refuse them.
        self.tells("put b zoe sign hut", "done")
        for line in ("sure b hut Elm", "way b hut Elm", "lead b ann 0 hut Elm", "watch b hut Elm"):
            self.refuses(NoSign, line, sign="hut")

    def test_the_forms_of_numbers(self):
        for number in ("-1", "+1", "00", "01", "007", "a", "1.0", "1,", "-", "n", "0" * 30, "1" * 31, "9" * 31, "-0", "1_0", "0x1"):
            for line in ("stop b {}", "left b ann {}", "lead b ann {} Oak Elm", "heard b {}", "book new {} 0 0 0 0 0 0 0",
                         "book new 0 0 0 0 0 0 0 {}", "refill b {} 0 0 0 0 0 0 0", "refill b 0 0 0 {} 0 0 0 0"):
                self.no_line(line.format(number))

    def test_log_and_entry_have_one_sign_at_least(self):
        for line in ("put b cy", "put b cy ", "note b ann", "note b ann "):
            self.no_line(line)

    def test_no_line_goes_ahead_of_all_else(self):
        for line in ("put nix Cy nix", "copy nix B", "drop nix Ann", "note nix ann ", "same nix B", "stop nix 01", "sure nix OAK Elm",
                     "book b 1 1 1 1 1 1 1", "left nix ann -1"):
            self.no_line(line)


class Refused(Told):
    def setUp(self):
        Told.setUp(self)
        self.tells("copy b c", "done")

    def test_no_book(self):
        for line in LINES:
            words = line.split(" ")
            if words[0] not in ("book", "books"):
                words[1] = "nix"
                self.refuses(NoBook, " ".join(words), name="nix")
        self.refuses(NoBook, "same b nix", name="nix")
        self.refuses(NoBook, "same nix nox", name="nix")
        self.refuses(NoBook, "same nix b", name="nix")
        self.tells("close c", "done")
        self.refuses(NoBook, "close c", name="c")
        self.refuses(NoBook, "same b c", name="c")
        self.refuses(NoBook, "text c", name="c")

    def test_no_book_goes_ahead_of_twice_and_no_text(self):
        self.refuses(NoBook, "copy nix b", name="nix")
        self.refuses(NoBook, "copy nix nix", name="nix")
        self.refuses(NoBook, "put nix ann nix", name="nix")
        self.refuses(NoBook, "note nix ann nix", name="nix")

    def test_twice(self):
        self.refuses(Twice, "book b " + ZEROS, name="b")
        self.refuses(Twice, "copy b c", name="c")
        self.refuses(Twice, "copy b b", name="b")
        self.refuses(Twice, "copy c b", name="b")

    def test_no_text(self):
        for text, at in (("nix", 0), ("face n; nix", 1), ("left", 0), (" -", 0), ("- ", 0), (" ", 0), ("  ", 0), (" face n", 0),
                         ("face n ", 0), ("face n; left ", 1), ("face n;  left", 1), ("face n; ", 1), ("~" * 3900, 0), ("face n\n", 0)):
            self.refuses(NoText, "put b cy " + text, at=at)
            # Though the name is taken, the text is read first.
            self.refuses(NoText, "put b ann " + text, at=at)
        for text in ("nix", " left", "left ", " ", "-", "left; left", "face", "go 0", "go 10", "go 01", "~" * 3900):
            self.refuses(NoText, "note b ann " + text, at=0)
            self.refuses(NoText, "note b nobody " + text, at=0)

    def test_as_the_book_refuses(self):
        self.refuses(Twice, "put b ann -", name="ann")
        self.refuses(NoWalker, "drop b zoe", name="zoe")
        self.refuses(NoWalker, "note b zoe left", name="zoe")
        self.tells("put b cy -", "done")
        self.refuses(BadLog, "note b cy left", name="cy", at=0)
        self.refuses(BadLog, "note b cy go 3", name="cy", at=0)
        self.refuses(NoWalker, "rename b zoe eve", name="zoe")
        self.refuses(NoWalker, "rename b zoe ann", name="zoe")
        self.refuses(Twice, "rename b ann cy", name="cy")
        self.refuses(Twice, "rename b ann ann", name="ann")
        self.refuses(NoWatch, "stop b 0", number=0)
        self.refuses(NoWatch, "heard b 0", number=0)
        self.refuses(NothingUndone, "again b")
        self.tells("undo b", "done")
        self.tells("undo b", "done")
        self.refuses(NothingDone, "undo b")

    def test_what_was_refused_does_not_forget_what_was_taken_back(self):
        self.tells("undo b", "done")
        self.refuses(NoText, "put b cy nix", at=0)
        self.refuses(Twice, "copy b b", name="b")
        self.tells("again b", "done")
        self.tells("same b c", "yes")


class AtRandom(unittest.TestCase):
    """A desk beside books that are asked by their methods."""

    def so(self, told):
        return f"apart {told[1][0]} {told[1][1]}" if told[0] == "apart" else told[0]

    def letters(self, told):
        return "none" if told is None else "".join(told) or "here"

    def told(self, call, *args):
        """What the call tells, or the class and the fields of its refusal."""
        try:
            return call(*args)
        except NeedleError as why:
            return type(why), vars(why)

    def least(self, atlas):
        if not fits(atlas, most=1):
            raise NoFit("none")
        return fits(atlas, most=1)[0]

    def asks(self, desk, book, name, one, two):
        atlas = book.atlas()
        found = fits(atlas)
        self.assertEqual(desk.tell("text b"), atlas_text(atlas))
        self.assertEqual(desk.tell("fits b"), str(len(found)))
        self.assertEqual(desk.tell("first b"), " ".join(map(str, found[0])) or "-" if found else "none")
        self.assertEqual(desk.tell("deeds b"), str(len(book)))
        self.assertEqual(desk.tell("blamed b"), ", ".join(" ".join(names) or "nobody" for names in blamed(atlas)))
        self.assertEqual(desk.tell("question b"), " ".join(map(str, question(atlas) or ("none",))))
        self.assertEqual(self.told(desk.tell, f"sure b {one} {two}"), self.told(lambda: self.so(surely(atlas, one, two))))
        self.assertEqual(self.told(desk.tell, f"drawn b {name}"), self.told(lambda: drawn(atlas, self.least(atlas), name)))
        self.assertEqual(
            self.told(desk.tell, f"way b {one} {two}"), self.told(lambda: self.letters(road(atlas, self.least(atlas), one, two))))
        self.assertEqual(
            self.told(desk.tell, f"lead b {name} 0 {one} {two}"), self.told(lambda: self.letters(sure_way(atlas, name, 0, one, two))))
        for (walker, leg), lots in zip(atlas.legs(), lots_left(atlas)):
            self.assertEqual(desk.tell(f"left b {walker} {leg}"), " ".join(map(str, lots)) or "none")
        self.assertEqual(desk.tell("heard b 0"), ", ".join(self.so(each) for each in book.heard(0)))

    def test_desk_and_book_tell_the_same(self):
        chance = random.Random(81)
        for _ in range(60):
            box, logs, _ = oracle.random_case(chance, chance.randrange(2), 3)
            desk, book = Desk(), Book(box)
            desk.tell("book b " + " ".join(map(str, box)))
            self.assertEqual(desk.tell("watch b Oak Elm"), str(book.watch("Oak", "Elm")))
            for name in sorted(logs):
                desk.tell(f"put b {name} {log_text(logs[name])}")
                book.put(name, logs[name])
                one, two = chance.choice(oracle.LONE), chance.choice(oracle.LONE + ("hut",))
                self.asks(desk, book, chance.choice(sorted(logs)), one, two)


if __name__ == "__main__":
    unittest.main()
