"""Point 0.3 and the interface: the error classes."""

import copy
import unittest

from lightfirst import errors
from tests import oracle

FIELDS = {
    "NoPrime": (), "NoSums": (), "NoSum": (), "BadWeb": ("part",), "NoLot": (), "NoVersion": (), "NoKeeping": (),
    "NotAlone": (), "NoPiece": (), "NoRing": (), "NoCut": (), "TooMany": ("most",), "NoPlan": ("number",),
    "Undone": ("number",), "BadPlan": (), "NoNumber": (), "NoRoom": ("least",), "NoSome": (), "NoStay": (),
    "NoTour": ("number",), "NoRows": (), "NoContents": (), "BadDisk": (), "NoCell": (), "NoThing": (),
    "NothingWaits": (), "Stopped": (), "Spoilt": ("piece",), "Unread": ("version",), "NoPlane": (), "NoneSafe": (),
    "BadText": ("line",), "NoSaying": (), "NoTale": (), "Broken": (),
}


class ErrorsTest(unittest.TestCase):

    def test_there_are_just_these(self):
        found = {name for name in vars(errors) if isinstance(getattr(errors, name), type)}
        self.assertEqual(found, set(FIELDS) | {"KeepError"})
        self.assertEqual(len(FIELDS), 35)

    def test_what_they_derive_from(self):
        self.assertEqual(errors.KeepError.__bases__, (ValueError,))
        for name in FIELDS:
            made = getattr(errors, name)
            self.assertEqual(made.__bases__, (errors.KeepError,))
            self.assertEqual((made.__name__, made.__module__), (name, "lightfirst.errors"))

    def test_fields_keep_whatever_is_passed(self):
        for name, fields in FIELDS.items():
            for thing in oracle.junk() + [0, 7, 10 ** 60 - 1, (0, 1), 0.5, {1, 2}]:
                made = getattr(errors, name)(*[thing for _ in fields])
                self.assertEqual(sorted(vars(made)), sorted(fields))
                for field in fields:
                    self.assertIs(getattr(made, field), thing)

    def test_made_with_just_their_fields(self):
        for name, fields in FIELDS.items():
            made = getattr(errors, name)
            with self.assertRaises(TypeError):
                made(*[0 for _ in fields], 0)
            if fields:
                with self.assertRaises(TypeError):
                    made()
        self.assertIsInstance(errors.KeepError(), ValueError)

    def test_equal_to_themselves_alone(self):
        one = errors.BadWeb("many")
        self.assertTrue(one == one)
        self.assertFalse(one == errors.BadWeb("many"))
        self.assertFalse(one == "many")

    def test_raised_and_copied(self):
        for name, fields in FIELDS.items():
            made = getattr(errors, name)(*[4 for _ in fields])
            with self.assertRaises(errors.KeepError) as caught:
                raise made
            self.assertIs(caught.exception, made)
            self.assertEqual(vars(copy.copy(made)), vars(made))


if __name__ == "__main__":
    unittest.main()
