"""[2] and the interface: the refusals."""

import unittest

from likepieces import errors
from likepieces.errors import LikeError

FIELDS = {
    "NoPlace": ("place",),
    "NoFunction": ("name",),
    "NoText": ("at",),
    "NoLine": ("line", "at"),
    "NoTable": ("word", "number"),
    "NoPut": ("word", "row", "hole"),
}
OF_A_TEXT = ("NoExchange", "NoBare", "NoFill", "NoPlaces", "NoRow")
SAMPLES = {
    "place": ((0, -1), (2, (0, 1)), (), None, "x", [1, ("a",)], True),
    "name": ("f", "", "nobody"),
    "at": (0, 5, 10 ** 59),
    "line": (0, 3),
    "word": ("shape", "place"),
    "number": (0, 7),
    "row": (-1, 0, 4),
    "hole": (-1, 0, 5),
}


def refusals():
    return [getattr(errors, name) for name in tuple(FIELDS) + OF_A_TEXT]


class Refusals(unittest.TestCase):
    def test_each_is_made_of_its_fields_in_their_order(self):
        for name, fields in FIELDS.items():
            for at in range(7):
                things = [SAMPLES[field][at % len(SAMPLES[field])] for field in fields]
                made = getattr(errors, name)(*things)
                for field, thing in zip(fields, things):
                    self.assertIs(getattr(made, field), thing, (name, field))

    def test_others_are_made_of_a_text(self):
        for name in OF_A_TEXT:
            for text in ("", "why", "a long one, with blanks"):
                self.assertEqual(str(getattr(errors, name)(text)), text)

    def test_the_base_is_made_of_a_text_or_of_nothing(self):
        self.assertEqual((str(LikeError("why")), str(LikeError())), ("why", ""))

    def test_each_stands_straight_beneath_the_base(self):
        self.assertEqual(LikeError.__bases__, (ValueError,))
        for kind in refusals():
            self.assertEqual(kind.__bases__, (LikeError,), kind)
            self.assertTrue(issubclass(kind, ValueError))

    def test_none_stands_beneath_another_one(self):
        for kind in refusals():
            self.assertEqual([other for other in refusals() if issubclass(kind, other)], [kind])

    def test_no_other_refusal_is_there(self):
        there = [name for name, thing in vars(errors).items() if isinstance(thing, type)]
        self.assertEqual(sorted(there), sorted(["LikeError"] + [kind.__name__ for kind in refusals()]))

    def test_each_can_be_taken_as_a_refusal(self):
        for name, fields in FIELDS.items():
            with self.assertRaises(LikeError):
                raise getattr(errors, name)(*[SAMPLES[field][0] for field in fields])
        for name in OF_A_TEXT:
            with self.assertRaises(LikeError):
                raise getattr(errors, name)("why")


if __name__ == "__main__":
    unittest.main()
