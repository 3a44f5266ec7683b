"""Point 4: the refusals."""

import unittest

from tests.samples import alike, nested
from wayneedle import errors

FIELDS = {
    "NoLot": ("lot",),
    "BadLog": ("name", "at"),
    "NoDealing": ("at",),
    "BadBox": ("at",),
    "NoName": ("name",),
    "Twice": ("name",),
    "NoWalker": ("name",),
    "NoSign": ("sign",),
    "NoLeg": ("name", "leg"),
    "TooMany": ("many",),
    "NoWatch": ("number",),
    "NoText": ("at",),
    "NoLine": ("line",),
    "NoBook": ("name",),
    "NoFit": (),
    "NoLink": (),
    "NothingDone": (),
    "NothingUndone": (),
}


def things():
    """Pairs of unlike things of every kind, made anew at each call."""
    return [
        (0, 1), (-1, "a"), ("", None), (True, 1), (False, 0), (10 ** 30, -10 ** 30),
        ((), []), ([], ()), ([1, [2]], (3, [4])), ("n", [None]), ({"a": 1}, object()), (nested(100), nested(2000)),
    ]


class Classes(unittest.TestCase):
    def test_needle_error_stands_straight_under_value_error(self):
        self.assertEqual(errors.NeedleError.__bases__, (ValueError,))

    def test_each_stands_straight_under_needle_error(self):
        for word in FIELDS:
            self.assertEqual(getattr(errors, word).__bases__, (errors.NeedleError,), word)

    def test_each_is_defined_in_its_file_under_its_name(self):
        for word in ["NeedleError", *FIELDS]:
            error = getattr(errors, word)
            self.assertEqual((error.__module__, error.__name__), ("wayneedle.errors", word))

    def test_there_are_no_others(self):
        found = [thing for thing in vars(errors).values() if isinstance(thing, type)]
        self.assertEqual(sorted(error.__name__ for error in found), sorted(["NeedleError", *FIELDS]))


class Fields(unittest.TestCase):
    def holds(self, made, names, given):
        for name, thing in zip(names, given):
            self.assertTrue(alike(getattr(made, name), thing), name)
        self.assertEqual(sorted(vars(made)), sorted(names))

    def test_made_by_places(self):
        for word, names in FIELDS.items():
            for pair in things():
                if names:
                    given = pair[:len(names)]
                    self.holds(getattr(errors, word)(*given), names, given)

    def test_made_by_names(self):
        for word, names in FIELDS.items():
            for pair in things():
                if names:
                    given = pair[:len(names)]
                    by_names = dict(reversed(list(zip(names, given))))
                    self.holds(getattr(errors, word)(**by_names), names, given)

    def test_a_list_that_is_altered_later_does_not_alter_a_field(self):
        for word, names in FIELDS.items():
            given = [[1, (2, [3])] for _ in names]
            if names:
                made = getattr(errors, word)(*given)
                for thing in given:
                    thing[1][1].append(4)
                    thing.append(5)
                for name in names:
                    self.assertTrue(alike(getattr(made, name), [1, (2, [3])]), (word, name))

    def test_a_list_that_is_altered_deep_within_does_not_alter_a_field(self):
        for word, names in FIELDS.items():
            for depth in (1, 2, 90, 99, 100, 101, 150, 1000, 20000):
                inmost = [[1] for _ in names]
                if names:
                    given = [nested(depth, thing) for thing in inmost]
                    made = getattr(errors, word)(*given)
                    for thing, whole in zip(inmost, given):
                        self.assertTrue(alike(whole, nested(depth, [1])), (word, depth))
                        thing.append(2)
                    for name in names:
                        self.assertTrue(alike(getattr(made, name), nested(depth, [1])), (word, depth))

    def test_lists_beside_one_another_are_each_kept(self):
        shared = [1]
        thing = [shared, (shared, 2, ([], shared)), "a", [[]], (), ((None, True), 0)]
        before = [[1], ([1], 2, ([], [1])), "a", [[]], (), ((None, True), 0)]
        made = errors.NoName(thing)
        self.assertTrue(alike(made.name, before))
        shared.append(3)
        thing[3][0].append(4)
        thing[1][2][0].append(5)
        self.assertTrue(alike(made.name, before))

    def test_a_field_of_deep_tuples_is_equal_to_them(self):
        thing = ()
        for _ in range(5000):
            thing = (thing,)
        self.assertTrue(errors.NoName(thing).name == thing)

    def test_made_with_another_number_of_things(self):
        for word, names in FIELDS.items():
            if names:
                with self.assertRaises(TypeError):
                    getattr(errors, word)(*names[1:])
                with self.assertRaises(TypeError):
                    getattr(errors, word)(*names, "more")

    def test_those_without_fields_are_made_of_one_text(self):
        for word in ["NeedleError", *[word for word in FIELDS if not FIELDS[word]]]:
            for text in ("", "why not", "~" * 4000):
                made = getattr(errors, word)(text)
                self.assertEqual((str(made), vars(made)), (text, {}))

    def test_each_is_caught_as_what_it_stands_under(self):
        for word, names in FIELDS.items():
            for above in (getattr(errors, word), errors.NeedleError, ValueError):
                with self.assertRaises(above):
                    raise getattr(errors, word)(*(names or ("text",)))
            for aside in FIELDS:
                if aside != word:
                    self.assertNotIsInstance(getattr(errors, word)(*(names or ("text",))), getattr(errors, aside))


if __name__ == "__main__":
    unittest.main()
