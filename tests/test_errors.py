"""[2]: how refusals stand and what they keep."""

import unittest

from powerrests import errors
from powerrests.errors import PowerError
from tests.helping import Case

FIELDS = {
    "NoShare": ("word",),
    "NoRest": ("number", "prime"),
    "NoRow": ("word", "place"),
    "NoPaper": ("word", "place"),
    "NoTurn": ("word", "thing"),
    "NoText": ("word", "place"),
    "NoLine": ("row",),
}


def plain_things():
    """Plain things of every kind, new objects each time."""
    return [
        None, True, False, 0, 1, -7, 10 ** 3999, -(10 ** 4000 - 1), "", "shape", "~ " * 50000,
        (), (1, (2, (3,))), [], [1, [2, {"a": [3]}]], {}, {"a": [1], 2: {(3,): None}},
        [None] * 4999, ([], {}, ((True,), "x")),
    ]


class Standing(Case):
    def test_base_stands_under_value_error(self):
        self.assertTrue(issubclass(PowerError, ValueError))
        self.assertEqual(PowerError.__bases__, (ValueError,))

    def test_each_stands_straight_under_the_base(self):
        for name in FIELDS:
            with self.subTest(name):
                self.assertEqual(getattr(errors, name).__bases__, (PowerError,))

    def test_none_stands_under_another(self):
        for name in FIELDS:
            for other in FIELDS:
                if name != other:
                    self.assertFalse(issubclass(getattr(errors, name), getattr(errors, other)), (name, other))

    def test_each_is_caught_by_the_base(self):
        for name, fields in FIELDS.items():
            for caught_as in (PowerError, ValueError):
                with self.assertRaises(caught_as) as caught:
                    raise getattr(errors, name)(*range(len(fields)))
                self.assertIs(type(caught.exception), getattr(errors, name))


class Keeping(Case):
    def test_keeps_the_very_things(self):
        for name, fields in FIELDS.items():
            for thing in plain_things():
                for other in plain_things():
                    things = (thing, other)[:len(fields)]
                    refusal = getattr(errors, name)(*things)
                    for field, due in zip(fields, things):
                        self.assertIs(getattr(refusal, field), due, (name, field))

    def test_things_stay_as_they_were(self):
        for name, fields in FIELDS.items():
            things = [["a", [1]], {"b": [2]}][:len(fields)]
            refusal = getattr(errors, name)(*things)
            self.assertEqual(things, [["a", [1]], {"b": [2]}][:len(fields)])
            # What is kept is no copy: a later change is seen.
            things[0].append(3)
            self.assertEqual(getattr(refusal, fields[0]), ["a", [1], 3])

    def test_two_refusals_keep_their_own(self):
        for name, fields in FIELDS.items():
            one = getattr(errors, name)(*([1], [2])[:len(fields)])
            other = getattr(errors, name)(*([3], [4])[:len(fields)])
            self.assertEqual([getattr(one, field) for field in fields], [[1], [2]][:len(fields)])
            self.assertEqual([getattr(other, field) for field in fields], [[3], [4]][:len(fields)])


if __name__ == "__main__":
    unittest.main()
