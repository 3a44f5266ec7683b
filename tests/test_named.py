"""Point 2: every function, method and class of the interface may be told its arguments by their places or by names."""

import importlib
import inspect
import unittest

from tests.samples import alike
from wayneedle.atlas import Atlas
from wayneedle.bars import settled
from wayneedle.blame import asking
from wayneedle.book import Book
from wayneedle.desk import Desk
from wayneedle.sure import surely

FACE = ("face", "n")

NORTH = (("sign", "Oak"), FACE, ("go", 1), ("sign", "Elm"))

RIGHT = (2, 0, 0, 0, 0, 0, 0, 0)

ATLAS = Atlas(RIGHT, (("ann", NORTH), ("bob", NORTH)))

BARRED = Atlas(RIGHT, (("ann", (("bare",), ("sign", "hut"))),))

PAPER = surely(ATLAS, "Oak", "Elm")[2]

TEXT = "box 2 0 0 0 0 0 0 0\nann: face n"

# For each name of the interface the arguments, by their names and in their order, and what is told.
CALLS = {
    "lots": {
        "step": ({"letter": "e"}, (1, 0)),
        "way_of": ({"place": (0, 0), "letter": "s"}, (0, -1, "n")),
        "true": ({"lot": 1, "letter": "n"}, "e"),
        "shown": ({"lot": 1, "letter": "e"}, "n"),
        "both": ({"one": 1, "other": 4}, 5),
        "undone": ({"lot": 3}, 1),
        "turned": ({"lot": 1, "place": (3, 5)}, (5, -3)),
    },
    "logs": {
        "is_name": ({"thing": "ann"}, True),
        "is_sign": ({"thing": "oak"}, True),
        "is_lone": ({"thing": "Oak"}, True),
        "held_log": ({"entries": [["face", "n"]]}, (FACE,)),
        "legs_in": ({"log": (("swap",),)}, 2),
    },
    "tracks": {
        "track": ({"log": (FACE,), "lots": (1,)}, (((0, 0), "e"),)),
        "facts": ({"log": (("bare",),), "lots": (1,)}, ((0, "bare", (0, 0), ""),)),
    },
    "atlas": {
        "is_dealt": ({"atlas": ATLAS, "dealing": (0, 0)}, True),
        "told": ({"atlas": BARRED, "dealing": (0,), "name": "ann"}, ((0, "bare", (0, 0), ""), (1, "sign", (0, 0), "hut"))),
        "groups": ({"atlas": ATLAS}, (("ann", "bob"),)),
    },
    "fits": {
        "spread": ({"atlas": ATLAS, "dealing": (0, 0)}, ("spread", (("ann", (0, 0)), ("bob", (0, 0))))),
    },
    "bars": {
        "is_bad": ({"atlas": BARRED, "dealing": (0,), "thread": (("ann", 0, 1),)}, True),
        "bars": ({"atlas": BARRED, "paper": settled(BARRED)[1]}, True),
        "settled": ({"atlas": ATLAS}, ("fits", (0, 0))),
    },
    "sure": {
        "lots_left": ({"atlas": ATLAS}, ((0,), (0,))),
        "apart": ({"atlas": ATLAS, "dealing": (0, 0), "one": "Oak", "other": "Elm"}, (0, 1)),
        "surely": ({"atlas": ATLAS, "one": "Oak", "other": "Elm"}, ("apart", (0, 1), PAPER)),
        "shows": ({"atlas": ATLAS, "one": "Oak", "other": "Elm", "place": (0, 1), "paper": PAPER}, True),
    },
    "maps": {
        "charted": ({"atlas": ATLAS, "dealing": (0, 0), "name": "ann"}, (
            (((0, 0), "Oak"), ((0, 1), "Elm")), (), ((0, 0, "n"),), ())),
        "drawn": ({"atlas": ATLAS, "dealing": (0, 0), "name": "ann"}, "E\n|\nO"),
    },
    "ways": {
        "road": ({"atlas": ATLAS, "dealing": (0, 0), "one": "Oak", "other": "Elm"}, ("n",)),
        "leads": ({"atlas": ATLAS, "name": "ann", "leg": 0, "one": "Oak", "other": "Elm", "letters": ("n",)}, True),
        "sure_way": ({"atlas": ATLAS, "name": "ann", "leg": 0, "one": "Oak", "other": "Elm"}, ("n",)),
    },
    "blame": {
        "blamed": ({"atlas": BARRED}, (("ann",),)),
        "question": ({"atlas": ATLAS}, None),
        "asking": ({"atlas": ATLAS}, ("known", (0, 0))),
        "known_by": ({"atlas": ATLAS, "plan": asking(ATLAS)}, True),
    },
    "texts": {
        "entry_text": ({"entry": FACE}, "face n"),
        "log_text": ({"log": (FACE, ("left",))}, "face n; left"),
        "dealing_text": ({"dealing": (0, 7)}, "0 7"),
        "atlas_text": ({"atlas": Atlas(RIGHT, (("ann", (FACE,)),))}, TEXT),
        "read_entry": ({"text": "face n"}, FACE),
        "read_log": ({"text": "face n; left"}, (FACE, ("left",))),
        "read_dealing": ({"text": "0 7"}, (0, 7)),
    },
}

ERRORS = {
    "NoLot": "lot", "BadLog": "name at", "NoDealing": "at", "BadBox": "at", "NoName": "name", "Twice": "name", "NoWalker": "name",
    "NoSign": "sign", "NoLeg": "name leg", "TooMany": "many", "NoWatch": "number", "NoText": "at", "NoLine": "line", "NoBook": "name",
}

METHODS = {
    Atlas: {"log": "name", "legs": "", "with_log": "name log", "without": "name"},
    Book: {"put": "name log", "drop": "name", "note": "name entry", "rename": "name other", "refill": "box", "undo": "", "again": "",
           "atlas": "", "copy": "", "watch": "one other", "heard": "number", "stop": "number"},
    Desk: {"tell": "line"},
}


class Named(unittest.TestCase):
    def test_functions(self):
        for stem, calls in CALLS.items():
            module = importlib.import_module("wayneedle." + stem)
            for name, (named, wanted) in calls.items():
                call = getattr(module, name)
                self.assertEqual(list(inspect.signature(call).parameters), list(named), name)
                self.assertTrue(alike(call(*named.values()), wanted), name)
                self.assertTrue(alike(call(**named), wanted), name)
                self.assertTrue(alike(call(**dict(reversed(named.items()))), wanted), name)
                # Asked anew the same is told.
                self.assertTrue(alike(call(*named.values()), wanted), name)

    def test_what_tells_an_atlas(self):
        read_atlas = importlib.import_module("wayneedle.texts").read_atlas
        self.assertTrue(read_atlas(TEXT) == read_atlas(text=TEXT) == Atlas(RIGHT, (("ann", (FACE,)),)))

    def test_behind_a_star_by_names_alone(self):
        fits = importlib.import_module("wayneedle.fits").fits
        self.assertEqual((fits(ATLAS), fits(atlas=ATLAS), fits(most=0, atlas=ATLAS)), (((0, 0),), ((0, 0),), ()))
        with self.assertRaises(TypeError):
            fits(ATLAS, 1)

    def test_errors(self):
        module = importlib.import_module("wayneedle.errors")
        for name, fields in ERRORS.items():
            named = {field: [at, "x"] for at, field in enumerate(fields.split())}
            self.assertEqual(vars(getattr(module, name)(**named)), named)
            self.assertEqual(vars(getattr(module, name)(*named.values())), named)

    def test_methods(self):
        for kind, methods in METHODS.items():
            for name, arguments in methods.items():
                self.assertEqual(list(inspect.signature(getattr(kind, name)).parameters)[1:], arguments.split(), (kind, name))
        self.assertEqual(list(inspect.signature(Atlas).parameters), ["box", "logs"])
        self.assertEqual(list(inspect.signature(Book).parameters), ["box"])
        self.assertEqual(list(inspect.signature(Desk).parameters), [])

    def test_methods_of_an_atlas(self):
        self.assertEqual(ATLAS.log(name="ann"), NORTH)
        self.assertTrue(ATLAS.with_log(log=(FACE,), name="bob").without(name="ann") == Atlas(logs=[("bob", [FACE])], box=RIGHT))

    def test_methods_of_a_book_and_a_desk(self):
        book = Book(box=RIGHT)
        book.put(log=(), name="ann")
        book.note(entry=FACE, name="ann")
        book.rename(other="bob", name="ann")
        book.refill(box=(1,) * 8)
        self.assertTrue(book.atlas() == Atlas((1,) * 8, (("bob", (FACE,)),)))
        book.drop(name="bob")
        self.assertEqual(book.watch(other="Elm", one="Oak"), 0)
        self.assertEqual(book.heard(number=0), (("untold",),))
        self.assertIs(book.stop(number=0), None)
        self.assertEqual(len(book), 5)
        self.assertEqual(Desk().tell(line="books"), "none")


if __name__ == "__main__":
    unittest.main()
