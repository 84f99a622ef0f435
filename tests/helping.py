"""What the tests share: strict likeness, asking twice, refusals, and fixed odd numbers."""

import copy
import random
import unittest
from fractions import Fraction

THIRTY = 10 ** 30 - 1

# Plain things that are no whole number, no SHARE, no POLY and no row.
ODD_THINGS = (
    None, True, False, "", "1/2", "(1, 2)", "1", [], [1, 2], [(1, 2)], {}, {1: 2}, {0: (1, 1)},
    (None,), (True,), ("",), ([],), ({},), ((),), (((),),), (None, None), ("1", "2"),
    ([1], [2]), ({}, {}), ((1, 2), 1), (1, (1, 2)), (((1, 2), (1, 3)), 1),
)


def alike(one, other):
    """Whether both are the same in value and in kind, all the way down."""
    if type(one) is not type(other):
        return False
    if isinstance(one, (tuple, list)):
        return len(one) == len(other) and all(alike(a, b) for a, b in zip(one, other))
    if isinstance(one, dict):
        return alike(list(one.items()), list(other.items()))
    return one == other


def share(number):
    """The SHARE of a Fraction or a whole number, made without the program."""
    number = Fraction(number)
    return (number.numerator, number.denominator)


def number_of(pair):
    return Fraction(pair[0], pair[1])


def poly(*numbers):
    """A tuple of SHAREs of Fractions and whole numbers."""
    return tuple(share(number) for number in numbers)


def value(one, x):
    """The value of a POLY at a number, by plain powers."""
    return sum((number_of(pair) * Fraction(x) ** k for k, pair in enumerate(one)), Fraction(0))


def deep(many):
    """A tuple within tuples, so many deep."""
    thing = ()
    for _ in range(many):
        thing = (thing,)
    return thing


class Case(unittest.TestCase):
    """Asks twice, and looks whether what was handed in stays as it was."""

    def told(self, function, *things):
        before = copy.deepcopy(things)
        first = function(*things)
        kept = copy.deepcopy(first)
        again = function(*things)
        self.assertTrue(alike(first, kept), f"{function.__name__}: what was told has changed")
        self.assertTrue(alike(first, again), f"{function.__name__}: another answer the next time")
        self.assertTrue(alike(things, before), f"{function.__name__}: a thing handed in was changed")
        return first

    def tells(self, due, function, *things):
        told = self.told(function, *things)
        if not alike(told, due):
            self.fail(f"{function.__name__}{things!r:.300}: told {told!r:.300}, due {due!r:.300}")

    def refuses(self, kind, fields, function, *things):
        before = copy.deepcopy(things)
        for _ in range(2):
            with self.assertRaises(kind) as caught:
                function(*things)
            self.assertIs(type(caught.exception), kind)
            for name, due in fields.items():
                kept = getattr(caught.exception, name)
                self.assertTrue(alike(kept, due), f"{things!r:.300}: {name} is {kept!r:.300}, due {due!r:.300}")
        self.assertTrue(alike(things, before))

    def is_right_share(self, pair):
        self.assertIs(type(pair), tuple)
        self.assertEqual(len(pair), 2)
        self.assertIs(type(pair[0]), int)
        self.assertIs(type(pair[1]), int)
        self.assertGreaterEqual(pair[1], 1)
        self.assertTrue(alike(pair, share(number_of(pair))), f"{pair!r:.300} is not in lowest terms")

    def is_right_poly(self, thing):
        self.assertIs(type(thing), tuple)
        for pair in thing:
            self.is_right_share(pair)
        self.assertFalse(thing and thing[-1] == (0, 1), f"{thing!r:.300} has nought at its end")

    def has_values(self, told, degree, due):
        """Whether the POLY told is the one of at most this degree with the values that due tells."""
        self.is_right_poly(told)
        self.assertLessEqual(len(told), degree + 1)
        # So many values settle a polynomial of that degree.
        for x in [Fraction(k, 3) - 2 for k in range(degree + 2)]:
            self.assertEqual(value(told, x), due(x))


class Odd:
    """Numbers without a pattern, the same ones each time."""

    def __init__(self, seed):
        self.source = random.Random(seed)

    def whole(self, figures):
        return self.source.randint(-(10 ** figures - 1), 10 ** figures - 1)

    def pair(self, figures):
        return share(Fraction(self.whole(figures), self.source.randint(1, 10 ** figures - 1)))

    def pairs(self, many, figures):
        return tuple(self.pair(figures) for _ in range(many))

    def poly(self, many, figures):
        """A POLY of just so many SHAREs, some of them nought, but not the last."""
        pairs = [self.pair(figures) if self.source.randint(0, 4) else (0, 1) for _ in range(many)]
        while pairs and pairs[-1] == (0, 1):
            pairs[-1] = self.pair(figures)
        return tuple(pairs)
