"""Points 33 to 35: a book, its deeds, and its watches."""

import random
import unittest

from tests import oracle
from tests.samples import FAR, alike, caught, flat, listed, nested, odd_things
from wayneedle.atlas import Atlas
from wayneedle.book import Book
from wayneedle.errors import BadBox, BadLog, NeedleError, NoName, NoSign, NothingDone, NothingUndone, NoWalker, NoWatch, Twice
from wayneedle.sure import surely

FACE = ("face", "n")

RIGHT = (6, 0, 0, 0, 0, 0, 0, 0)

BOX = (2, 1, 0, 1, 0, 0, 3, 0)

OAK, ELM, ASH, HUT = ("sign", "Oak"), ("sign", "Elm"), ("sign", "Ash"), ("sign", "hut")

# From Oak to Elm, one step by the letter.
NORTH, SOUTH = (OAK, FACE, ("go", 1), ELM), (OAK, ("face", "s"), ("go", 1), ELM)

METHODS = ("put", "drop", "note", "rename", "refill", "undo", "again", "atlas", "copy", "watch", "heard", "stop",
           "__init__", "__eq__", "__len__")


def no_names():
    """Things that are no names, made anew at each call."""
    return odd_things() + [0, 1, "", " ", "Ann", "ann ", "abcdefghi", "a1", "~" * 4000, ("ann",), ["ann"], nested(400)]


def no_entries():
    """Things that are no entries, made anew at each call."""
    return odd_things() + [0, 1, "", "left", ("go",), ("go", 0), ("go", 10), ("go", True), ("face", "N"), ("face",), ("sign", ""),
                           ("sign", "oAk"), ("spy", 1), ("spy", "1", "Oak"), ("spy", 0, "Oak"), ("left", 1), ("swap", ()),
                           ("nix",), [["left"]], nested(400), "~" * 4000]


def state(book):
    """All that can be told of a book."""
    heard = []
    while True:
        try:
            heard.append(book.heard(len(heard)))
        except NoWatch:
            break
    atlas = book.atlas()
    return (atlas.box, atlas.names, atlas.logs), len(book), heard


class Told(unittest.TestCase):
    def holds(self, book, box, logs, deeds):
        """The book holds the atlas of these, and so many deeds stand."""
        wanted = Atlas(box, logs)
        atlas = book.atlas()
        self.assertTrue(alike((atlas.box, atlas.names, atlas.logs), (wanted.box, wanted.names, wanted.logs)))
        self.assertTrue(isinstance(atlas, Atlas) and atlas == wanted)
        self.assertTrue(alike(len(book), deeds))

    def refuses(self, book, error, method, *args, **named):
        """The fields of the refusal; the book stays as it was."""
        before = flat(state(book))
        why = caught(error, getattr(book, method), *args, **named)
        self.assertEqual(flat(state(book)), before)
        return vars(why)

    def tells_none(self, told):
        self.assertIs(told, None)


class Begun(Told):
    def test_methods_stand_in_the_class_itself(self):
        for word in METHODS:
            self.assertIn(word, vars(Book))

    def test_without_logs(self):
        for box in (RIGHT, BOX, (0,) * 8, (FAR,) * 8):
            self.holds(Book(box), box, (), 0)
            self.holds(Book(list(box)), box, (), 0)
            self.holds(Book(box=box), box, (), 0)

    def test_a_box_that_is_altered_later(self):
        box = list(BOX)
        book = Book(box)
        self.assertEqual(box, list(BOX))
        box[0] = 9
        box.pop()
        self.holds(book, BOX, (), 0)

    def test_bad_box(self):
        for box, at in (((), 0), ((1,) * 7, 7), ((1,) * 9, 9), ((None,) * 9, 9), ((0, -1, 0, 0, 0, 0, 0, 0), 1),
                        ((0, 0, 0, 0, 0, 0, 0, True), 7), ((0, 0, None, [], 0, 0, 0, 0), 2), (("1",) * 8, 0)):
            for given in (box, list(box)):
                self.assertTrue(alike(caught(BadBox, Book, given).at, at))
                self.assertTrue(alike(caught(BadBox, Book, box=given).at, at))


class Deeds(Told):
    def setUp(self):
        self.book = Book(BOX)
        self.book.put("bob", NORTH)

    def test_put(self):
        self.tells_none(self.book.put("ann", (FACE,)))
        self.holds(self.book, BOX, (("ann", (FACE,)), ("bob", NORTH)), 2)
        self.tells_none(self.book.put(log=(), name="cy"))
        self.holds(self.book, BOX, (("ann", (FACE,)), ("bob", NORTH), ("cy", ())), 3)

    def test_put_lists_that_are_altered_later(self):
        log = listed(NORTH)
        self.book.put("ann", log)
        self.assertTrue(alike(log, listed(NORTH)))
        log[0][1] = "Ash"
        log.append(["left"])
        log[2].append(3)
        self.holds(self.book, BOX, (("ann", NORTH), ("bob", NORTH)), 2)

    def test_put_refused(self):
        for name in no_names():
            for log in ((), (None,), NORTH):
                self.assertTrue(alike(self.refuses(self.book, NoName, "put", name, log)["name"], name))
        for log in ((), (None,), NORTH, [["left"]]):
            self.assertEqual(self.refuses(self.book, Twice, "put", "bob", log), {"name": "bob"})
        for thing in no_entries():
            for log, at in (((thing,), 0), ((FACE, thing), 1), ((thing, thing, thing), 0), ((FACE, ("left",), OAK, thing), 3)):
                self.assertEqual(self.refuses(self.book, BadLog, "put", "ann", log), {"name": "ann", "at": at})
                self.assertEqual(self.refuses(self.book, BadLog, "put", log=list(log), name="ann"), {"name": "ann", "at": at})
        for word in (("left",), ("right",), ("back",), ("go", 1), ("bump",), ("spy", 1, "Oak")):
            self.assertEqual(self.refuses(self.book, BadLog, "put", "ann", (OAK, word, FACE)), {"name": "ann", "at": 1})
        self.holds(self.book, BOX, (("bob", NORTH),), 1)

    def test_drop(self):
        self.book.put("ann", ())
        self.tells_none(self.book.drop("bob"))
        self.holds(self.book, BOX, (("ann", ()),), 3)
        self.tells_none(self.book.drop(name="ann"))
        self.holds(self.book, BOX, (), 4)
        # A name that was left out may be put anew.
        self.book.put("bob", SOUTH)
        self.holds(self.book, BOX, (("bob", SOUTH),), 5)

    def test_drop_refused(self):
        for name in no_names() + ["ann", "bo", "bobb"]:
            self.assertTrue(alike(self.refuses(self.book, NoWalker, "drop", name)["name"], name))
        self.assertEqual(self.refuses(Book(BOX), NoWalker, "drop", name="bob"), {"name": "bob"})

    def test_note(self):
        self.tells_none(self.book.note("bob", ("right",)))
        self.holds(self.book, BOX, (("bob", (*NORTH, ("right",))),), 2)
        self.tells_none(self.book.note(entry=("spy", 3, "hut"), name="bob"))
        self.holds(self.book, BOX, (("bob", (*NORTH, ("right",), ("spy", 3, "hut"))),), 3)
        self.book.put("ann", ())
        for entry in (("swap",), ("bare",), HUT, FACE, ("bump",)):
            self.book.note("ann", entry)
        self.assertEqual(self.book.atlas().log("ann"), (("swap",), ("bare",), HUT, FACE, ("bump",)))

    def test_note_a_list_that_is_altered_later(self):
        entry = ["go", 2]
        self.book.note("bob", entry)
        self.assertEqual(entry, ["go", 2])
        entry[1] = 9
        entry.append(1)
        self.holds(self.book, BOX, (("bob", (*NORTH, ("go", 2))),), 2)

    def test_note_refused(self):
        for name in no_names() + ["ann"]:
            for entry in (("left",), None, [[]]):
                self.assertTrue(alike(self.refuses(self.book, NoWalker, "note", name, entry)["name"], name))
        self.book.put("cy", (OAK,))
        for thing in no_entries():
            self.assertEqual(self.refuses(self.book, BadLog, "note", "bob", thing), {"name": "bob", "at": 4})
            self.assertEqual(self.refuses(self.book, BadLog, "note", entry=thing, name="cy"), {"name": "cy", "at": 1})
        for entry in (("left",), ("right",), ("back",), ("go", 1), ("bump",), ("spy", 1, "Oak"), ["go", 9]):
            self.assertEqual(self.refuses(self.book, BadLog, "note", "cy", entry), {"name": "cy", "at": 1})
        self.book.put("dora", ())
        self.assertEqual(self.refuses(self.book, BadLog, "note", "dora", ("left",)), {"name": "dora", "at": 0})

    def test_rename(self):
        self.book.put("cy", (FACE,))
        self.tells_none(self.book.rename("bob", "zoe"))
        self.holds(self.book, BOX, (("cy", (FACE,)), ("zoe", NORTH)), 3)
        self.tells_none(self.book.rename(other="a", name="zoe"))
        self.holds(self.book, BOX, (("a", NORTH), ("cy", (FACE,))), 4)
        self.book.rename("cy", "bob")
        self.holds(self.book, BOX, (("a", NORTH), ("bob", (FACE,))), 5)

    def test_rename_refused(self):
        self.book.put("cy", (FACE,))
        for name in no_names() + ["ann"]:
            for other in ("zoe", "bob", "", None, name):
                self.assertTrue(alike(self.refuses(self.book, NoWalker, "rename", name, other)["name"], name))
        for other in no_names():
            self.assertTrue(alike(self.refuses(self.book, NoName, "rename", "bob", other)["name"], other))
            self.assertTrue(alike(self.refuses(self.book, NoName, "rename", other=other, name="bob")["name"], other))
        self.assertEqual(self.refuses(self.book, Twice, "rename", "bob", "cy"), {"name": "cy"})
        self.assertEqual(self.refuses(self.book, Twice, "rename", "bob", "bob"), {"name": "bob"})

    def test_refill(self):
        self.tells_none(self.book.refill((0, 1, 2, 3, 4, 5, 6, 7)))
        self.holds(self.book, (0, 1, 2, 3, 4, 5, 6, 7), (("bob", NORTH),), 2)
        box = list(RIGHT)
        self.tells_none(self.book.refill(box=box))
        box[0] = 0
        box.append(3)
        self.holds(self.book, RIGHT, (("bob", NORTH),), 3)
        # The same box anew is a deed, too.
        self.book.refill(RIGHT)
        self.holds(self.book, RIGHT, (("bob", NORTH),), 4)

    def test_refill_refused(self):
        for box, at in (((), 0), ((1,) * 7, 7), ((1,) * 9, 9), (([],) * 3, 3), ((0, -1, 0, 0, 0, 0, 0, 0), 1),
                        ((0, 0, 0, 0, 0, 0, 0, True), 7), ((0, 0, None, [], 0, 0, 0, 0), 2), (("1",) * 8, 0),
                        ((nested(400),) * 8, 0)):
            for given in (box, list(box)):
                self.assertTrue(alike(self.refuses(self.book, BadBox, "refill", given)["at"], at))
                self.assertTrue(alike(self.refuses(self.book, BadBox, "refill", box=given)["at"], at))

    def test_an_atlas_that_was_told_stays_as_it_was(self):
        atlas = self.book.atlas()
        self.book.drop("bob")
        self.assertTrue(atlas == Atlas(BOX, (("bob", NORTH),)))


class TakenBack(Told):
    def test_nothing_done(self):
        book = Book(BOX)
        self.assertEqual(self.refuses(book, NothingDone, "undo"), {})
        self.assertEqual(self.refuses(book, NothingUndone, "again"), {})
        book.put("ann", ())
        self.assertEqual(self.refuses(book, NothingUndone, "again"), {})
        book.undo()
        self.assertEqual(self.refuses(book, NothingDone, "undo"), {})
        book.again()
        self.assertEqual(self.refuses(book, NothingUndone, "again"), {})

    def test_each_deed(self):
        book = Book(BOX)
        deeds = (("put", "bob", NORTH), ("put", "ann", ()), ("note", "ann", FACE), ("rename", "bob", "cy"), ("refill", RIGHT),
                 ("drop", "ann"))
        states = [state(book)]
        for method, *args in deeds:
            getattr(book, method)(*args)
            states.append(state(book))
        self.assertEqual(len({repr(each) for each in states}), 7)
        for _ in range(2):
            for wanted in states[-2::-1]:
                self.tells_none(book.undo())
                self.assertEqual(state(book), wanted)
            self.assertEqual(self.refuses(book, NothingDone, "undo"), {})
            for wanted in states[1:]:
                self.tells_none(book.again())
                self.assertEqual(state(book), wanted)
            self.assertEqual(self.refuses(book, NothingUndone, "again"), {})

    def test_a_new_deed_makes_what_was_taken_back_be_forgotten(self):
        for method, *args in (("put", "cy", ()), ("drop", "ann"), ("note", "ann", FACE), ("rename", "ann", "zoe"), ("refill", RIGHT)):
            book = Book(BOX)
            book.put("ann", ())
            book.put("bob", ())
            book.undo()
            getattr(book, method)(*args)
            self.assertEqual(len(book), 2)
            self.assertEqual(self.refuses(book, NothingUndone, "again"), {})
            book.undo()
            self.holds(book, BOX, (("ann", ()),), 1)
            book.again()
            self.assertEqual(len(book), 2)

    def test_a_refused_deed_forgets_nothing(self):
        book = Book(BOX)
        book.put("ann", ())
        book.put("bob", ())
        book.undo()
        for error, method, *args in ((Twice, "put", "ann", ()), (NoWalker, "drop", "bob"), (BadLog, "note", "ann", None),
                                     (Twice, "rename", "ann", "ann"), (BadBox, "refill", ()), (NoName, "put", "", ())):
            self.refuses(book, error, method, *args)
        book.again()
        self.holds(book, BOX, (("ann", ()), ("bob", ())), 2)

    def test_asks_and_watches_forget_nothing(self):
        book = Book(BOX)
        book.put("ann", NORTH)
        book.undo()
        book.watch("Oak", "Elm")
        book.stop(0)
        book.heard(0)
        book.copy()
        book.atlas()
        book.again()
        self.holds(book, BOX, (("ann", NORTH),), 1)


class Copies(Told):
    def test_stands_as_this_one_does(self):
        book = Book(BOX)
        book.put("ann", NORTH)
        book.watch("Oak", "Elm")
        book.put("bob", ())
        book.note("bob", FACE)
        book.undo()
        twin = book.copy()
        self.assertTrue(isinstance(twin, Book) and twin == book)
        self.assertEqual(state(twin), state(book))
        # The same deeds to take back and to do again.
        for deed in ("again", "undo", "undo", "undo", "again", "again", "again"):
            getattr(book, deed)()
            getattr(twin, deed)()
            self.assertEqual(state(twin), state(book))

    def test_each_goes_its_own_way(self):
        book = Book(BOX)
        book.put("ann", NORTH)
        book.put("bob", ())
        book.undo()
        book.watch("Oak", "Elm")
        twin = book.copy()
        before = state(book)
        for method, *args in (("again",), ("undo",), ("undo",), ("put", "cy", ()), ("watch", "Oak", "Oak"), ("refill", RIGHT),
                              ("stop", 0), ("put", "ann", SOUTH), ("drop", "cy")):
            getattr(twin, method)(*args)
            self.assertEqual(state(book), before)
        self.refuses(twin, NothingUndone, "again")
        book.again()
        self.holds(book, BOX, (("ann", NORTH), ("bob", ())), 2)
        before = state(twin)
        book.drop("ann")
        book.watch("Ash", "Ash")
        book.stop(0)
        self.assertEqual(state(twin), before)
        # What was stopped in the one goes on in the other.
        twin = book.copy()
        other = twin.copy()
        number = other.watch("Oak", "Elm")
        other.put("ann", NORTH)
        self.assertEqual(other.heard(number)[-1][0], "unlike")
        caught(NoWatch, twin.heard, number)

    def test_a_watch_stopped_in_the_one_alone(self):
        book = Book(RIGHT)
        book.watch("Oak", "Elm")
        twin = book.copy()
        book.stop(0)
        for each in (book, twin):
            each.put("ann", NORTH)
        self.assertTrue(alike(book.heard(0), (("untold",),)))
        self.assertTrue(alike(twin.heard(0), (("untold",), ("apart", (0, 1)))))
        # A copy of a book with a watch that was stopped has it stopped, too.
        twin = book.copy()
        twin.drop("ann")
        twin.put("ann", SOUTH)
        self.assertTrue(alike(twin.heard(0), (("untold",),)))

    def test_equal(self):
        one, other = Book(BOX), Book(list(BOX))
        self.assertTrue(one == other and not one != other and one == one)
        one.put("ann", NORTH)
        self.assertTrue(one != other and not one == other)
        other.put("ann", listed(NORTH))
        self.assertTrue(one == other)
        # Only the atlases count, not the deeds, nor the watches.
        one.drop("ann")
        one.put("ann", NORTH)
        one.watch("Oak", "Elm")
        self.assertTrue(one == other and len(one) != len(other))
        one.refill(RIGHT)
        self.assertTrue(one != other)
        one.undo()
        self.assertTrue(one == other)

    def test_a_book_equals_nothing_else(self):
        book = Book(BOX)
        for thing in odd_things() + [0, "", Atlas(BOX), BOX, book.atlas()]:
            self.assertIs(book == thing, False)
            self.assertIs(book != thing, True)
            self.assertIs(thing == book, False)


class Watches(Told):
    def test_each_word(self):
        book = Book(RIGHT)
        self.assertTrue(alike(book.watch("Oak", "Elm"), 0))
        self.assertTrue(alike(book.heard(0), (("untold",),)))
        book.put("ann", (OAK,))
        self.assertTrue(alike(book.heard(0), (("untold",),)))
        book.put("bob", (ELM,))
        book.note("ann", FACE)
        wanted = [("untold",), ("unlinked",)]
        self.assertTrue(alike(book.heard(0), tuple(wanted)))
        book.note("ann", ("spy", 3, "Elm"))
        wanted.append(("apart", (0, 3)))
        self.assertTrue(alike(book.heard(0), tuple(wanted)))
        book.refill((2, 2, 0, 0, 0, 0, 0, 0))
        wanted.append(("unlike",))
        self.assertTrue(alike(book.heard(number=0), tuple(wanted)))
        book.note("bob", ("bare",))
        wanted.append(("barred",))
        self.assertTrue(alike(book.heard(0), tuple(wanted)))
        book.drop("bob")
        wanted.append(("unlike",))
        book.refill((0, 2, 0, 0, 0, 0, 0, 0))
        wanted.append(("apart", (3, 0)))
        self.assertTrue(alike(book.heard(0), tuple(wanted)))
        book.drop("ann")
        wanted.append(("untold",))
        self.assertTrue(alike(book.heard(0), tuple(wanted)))

    def test_one_of_the_two_is_untold(self):
        book = Book(RIGHT)
        book.put("ann", (OAK,))
        book.put("bob", (("sign", "oak"), ("sign", "elm")))
        for one, other in (("Oak", "Elm"), ("Elm", "Oak"), ("Elm", "Elm")):
            self.assertEqual(book.heard(book.watch(one, other)), (("untold",),))
        # Though no dealing fits, what is untold is untold.
        self.assertEqual(book.heard(book.watch("Oak", "Oak")), (("barred",),))

    def test_what_is_so_when_it_is_set(self):
        book = Book(RIGHT)
        book.put("ann", NORTH)
        book.put("bob", (ASH,))
        for at, (one, other, so) in enumerate((
            ("Oak", "Elm", ("apart", (0, 1))), ("Elm", "Oak", ("apart", (0, -1))), ("Oak", "Oak", ("apart", (0, 0))),
            ("Ash", "Oak", ("unlinked",)), ("Fir", "Oak", ("untold",)), ("Oak", "Elm", ("apart", (0, 1))),
        )):
            self.assertTrue(alike(book.watch(other=other, one=one), at))
            self.assertTrue(alike(book.heard(at), (so,)))

    def test_another_place_is_put_to_it(self):
        book = Book(RIGHT)
        book.put("ann", NORTH)
        book.watch("Oak", "Elm")
        book.refill((0, 6, 0, 0, 0, 0, 0, 0))
        book.refill((0, 5, 0, 0, 0, 0, 0, 0))
        book.refill((0, 0, 6, 0, 0, 0, 0, 0))
        self.assertEqual(book.heard(0), (("apart", (0, 1)), ("apart", (1, 0)), ("apart", (0, -1))))

    def test_unlike_in_another_way_is_not_put_twice(self):
        book = Book((1, 1, 0, 0, 0, 0, 0, 0))
        book.put("ann", NORTH)
        book.watch("Oak", "Elm")
        book.refill((1, 0, 1, 0, 0, 0, 0, 0))
        book.refill((0, 1, 1, 0, 0, 0, 0, 0))
        self.assertEqual(book.heard(0), (("unlike",),))
        book.put("bob", (HUT, ("bare",)))
        book.refill((0, 1, 0, 0, 0, 0, 0, 0))
        self.assertEqual(book.heard(0), (("unlike",), ("barred",)))

    def test_undo_and_again(self):
        book = Book(RIGHT)
        book.watch("Oak", "Elm")
        book.put("ann", NORTH)
        book.undo()
        book.again()
        so = ("apart", (0, 1))
        self.assertEqual(book.heard(0), (("untold",), so, ("untold",), so))
        book.put("bob", ())
        book.undo()
        book.again()
        self.assertEqual(book.heard(0), (("untold",), so, ("untold",), so))
        caught(NothingUndone, book.again)
        self.assertEqual(book.heard(0), (("untold",), so, ("untold",), so))

    def test_no_deed_and_not_taken_back(self):
        book = Book(RIGHT)
        book.put("ann", NORTH)
        self.assertEqual(len(book), 1)
        book.watch("Oak", "Elm")
        self.assertEqual(len(book), 1)
        book.undo()
        self.holds(book, RIGHT, (), 0)
        self.assertEqual(book.heard(0), (("apart", (0, 1)), ("untold",)))
        caught(NothingDone, book.undo)
        self.assertEqual(book.watch("Elm", "Oak"), 1)

    def test_stop(self):
        book = Book(RIGHT)
        book.watch("Oak", "Elm")
        book.watch("Oak", "Elm")
        self.tells_none(book.stop(0))
        book.put("ann", NORTH)
        self.assertEqual((book.heard(0), book.heard(1)), ((("untold",),), (("untold",), ("apart", (0, 1)))))
        self.tells_none(book.stop(number=0))
        self.tells_none(book.stop(1))
        book.undo()
        book.again()
        book.drop("ann")
        self.assertEqual((book.heard(0), book.heard(1)), ((("untold",),), (("untold",), ("apart", (0, 1)))))
        # Numbers go on, and a watch set anew goes on by itself.
        self.assertEqual(book.watch("Oak", "Elm"), 2)
        book.undo()
        self.assertEqual(book.heard(2), (("untold",), ("apart", (0, 1))))

    def test_a_refused_deed_is_not_heard(self):
        book = Book(RIGHT)
        book.put("ann", NORTH)
        book.watch("Oak", "Elm")
        for error, method, *args in ((Twice, "put", "ann", ()), (NoWalker, "drop", "bob"), (BadLog, "note", "ann", None),
                                     (NoName, "rename", "ann", ""), (BadBox, "refill", ())):
            self.refuses(book, error, method, *args)
        self.assertEqual(book.heard(0), (("apart", (0, 1)),))

    def test_no_sign(self):
        book = Book(RIGHT)
        book.put("ann", NORTH)
        for text in ("", " ", "oak", "hut", "Oak ", "OAK", "oAk", "Abcdefghi", "O1", "~" * 4000):
            self.assertTrue(alike(self.refuses(book, NoSign, "watch", text, "Oak")["sign"], text))
            self.assertTrue(alike(self.refuses(book, NoSign, "watch", "Oak", text)["sign"], text))
            self.assertEqual(self.refuses(book, NoSign, "watch", text, "nix"), {"sign": text})
            self.assertEqual(self.refuses(book, NoSign, "watch", other=text, one="nix"), {"sign": "nix"})
        # No watch was set by any of these.
        self.assertEqual(book.watch("Oak", "Yew"), 0)

    def test_no_watch(self):
        book = Book(RIGHT)
        for many in range(3):
            for number in (-1, -2, -3, many, many + 1, 100, FAR, -FAR):
                for method in ("heard", "stop"):
                    self.assertTrue(alike(self.refuses(book, NoWatch, method, number)["number"], number))
                    self.assertTrue(alike(self.refuses(book, NoWatch, method, number=number)["number"], number))
            book.watch("Oak", "Elm")

    def test_what_was_heard_stays_as_it_was(self):
        book = Book(RIGHT)
        book.watch("Oak", "Elm")
        told = book.heard(0)
        book.put("ann", NORTH)
        self.assertTrue(alike(told, (("untold",),)))


def so_of(atlas, one, other):
    """What is so of two signs, by surely."""
    signs = set().union(*[oracle.lone(log) for log in atlas.logs])
    if one not in signs or other not in signs:
        return ("untold",)
    told = surely(atlas, one, other)
    return told[:2] if told[0] == "apart" else told[:1]


class AtRandom(Told):
    """Deeds at random, beside a list of the atlases that were."""

    def deed(self, chance, logs):
        """A deed, done or refused."""
        names = ["ann", "bob", "cy", "", "Bad", None]
        entry = chance.choice([("go", 1), OAK, ELM, FACE, ("bare",), ("spy", 1, "Elm"), ("left",), None, ("go", 0), ("swap",)])
        log = chance.choice([NORTH, SOUTH, (), (OAK,), (ELM,), (ASH, FACE), (None,), (("left",),)])
        box = chance.choice([RIGHT, (1, 1, 1, 0, 0, 0, 0, 0), (0,) * 8, (2, 0, 1, 0, 0, 0, 0, 0), (1,), (0, 0, None, 0, 0, 0, 0, 0)])
        return chance.choice([
            ("put", chance.choice(names), log), ("put", chance.choice(names[:3]), log), ("drop", chance.choice(names)),
            ("note", chance.choice(names), entry), ("note", chance.choice(names[:3]), entry), ("refill", box),
            ("rename", chance.choice(names[:3]), chance.choice(names))])

    def wanted(self, atlas, method, *args):
        """The atlas behind the deed, made at once."""
        logs = dict(zip(atlas.names, atlas.logs))
        box = atlas.box
        if method == "put":
            logs[args[0]] = args[1]
        elif method == "drop":
            del logs[args[0]]
        elif method == "note":
            logs[args[0]] = (*logs[args[0]], args[1])
        elif method == "rename":
            logs[args[1]] = logs.pop(args[0])
        else:
            box = args[0]
        return Atlas(box, list(logs.items()))

    def test_the_same_as_an_atlas_made_at_once(self):
        chance = random.Random(61)
        done, refused = 0, 0
        for _ in range(40):
            book = Book(RIGHT)
            atlases, at = [Atlas(RIGHT)], 0
            book.watch("Oak", "Elm")
            heard = [("untold",)]
            for _ in range(40):
                way = chance.random()
                before = state(book)
                if way < 0.15 and at > 0:
                    book.undo()
                    at -= 1
                elif way < 0.3 and at + 1 < len(atlases):
                    book.again()
                    at += 1
                else:
                    method, *args = self.deed(chance, atlases[at])
                    try:
                        getattr(book, method)(*args)
                    except NeedleError:
                        refused += 1
                        self.assertEqual(state(book), before)
                        continue
                    done += 1
                    atlases[at + 1:] = [self.wanted(atlases[at], method, *args)]
                    at += 1
                self.assertTrue(book.atlas() == atlases[at])
                self.assertEqual(len(book), at)
                so = so_of(atlases[at], "Oak", "Elm")
                heard += [so] if so != heard[-1] else []
                self.assertTrue(alike(book.heard(0), tuple(heard)))
        self.assertGreater(done, 300)
        self.assertGreater(refused, 100)


if __name__ == "__main__":
    unittest.main()
