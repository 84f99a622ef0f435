"""[4], [22], [23]: sums with signs in turn, and the turn POLYs."""

import unittest
from fractions import Fraction

from powerrests.polys import poly_pair
from powerrests.signs import signed, signed_below, turn_poly
from tests.helping import GREAT, Case, number_of, poly, share, some_polys, value


def added_in_turn(one, many):
    return sum((value(one, k) * (-1) ** k for k in range(many)), Fraction(0))


class Signed(Case):
    def test_its_pair(self):
        for one in some_polys():
            told = self.told(signed, one)
            self.is_right_poly(told)
            self.assertEqual(len(told), len(one))
            # At so many places, that the pair can be no other POLY.
            for x in range(-3, len(one) + 3):
                self.assertEqual(value(told, x + 1) + value(told, x), value(one, x))
            self.assertEqual(poly_pair(told), one)

    def test_written_out(self):
        self.tells((), signed, ())
        self.tells(poly(Fraction(1, 2)), signed, poly(1))
        self.tells(poly(-3), signed, poly(-6))
        self.tells(poly(Fraction(-1, 4), Fraction(1, 2)), signed, poly(0, 1))
        self.tells(poly(0, Fraction(-1, 2), Fraction(1, 2)), signed, poly(0, 0, 1))


class SignedBelow(Case):
    def test_none(self):
        for one in some_polys():
            self.tells((0, 1), signed_below, one, 0)

    def test_one_and_two(self):
        for one in some_polys():
            self.tells(share(value(one, 0)), signed_below, one, 1)
            self.tells(share(value(one, 0) - value(one, 1)), signed_below, one, 2)

    def test_few(self):
        for one in some_polys():
            for many in (3, 4, 5, 10, 31):
                self.tells(share(added_in_turn(one, many)), signed_below, one, many)

    def test_far(self):
        for one in some_polys():
            paper = signed(one)
            for many in (GREAT, GREAT + 1, GREAT - 1, 10 ** 15, 10 ** 29 + 7):
                told = self.told(signed_below, one, many)
                self.is_right_share(told)
                sign = (-1) ** (many % 2)
                self.assertEqual(number_of(told), value(paper, 0) - sign * value(paper, many))
                ahead = number_of(self.told(signed_below, one, many - 1))
                self.assertEqual(number_of(told) - ahead, -sign * value(one, many - 1))

    def test_far_written_out(self):
        self.tells((0, 1), signed_below, poly(1), GREAT)
        self.tells((1, 1), signed_below, poly(1), GREAT + 1)
        self.tells((-GREAT // 2, 1), signed_below, poly(0, 1), GREAT)
        self.tells((GREAT // 2, 1), signed_below, poly(0, 1), GREAT + 1)
        self.tells((-GREAT * (GREAT - 1) // 2, 1), signed_below, poly(0, 0, 1), GREAT)
        self.tells((GREAT * (GREAT + 1) // 2, 1), signed_below, poly(0, 0, 1), GREAT + 1)
        self.tells((0, 1), signed_below, (), GREAT)
        self.tells((0, 1), signed_below, (), GREAT + 1)


class TurnPoly(Case):
    def test_its_pair(self):
        for n in range(21):
            told = self.told(turn_poly, n)
            self.is_right_poly(told)
            self.assertEqual(len(told), n + 1)
            for x in range(-3, n + 3):
                self.assertEqual(value(told, x + 1) + value(told, x), 2 * x ** n)

    def test_is_the_signed_one(self):
        for n in range(21):
            self.tells(signed(poly(*[0] * n, 2)), turn_poly, n)

    def test_written_out(self):
        self.tells(poly(1), turn_poly, 0)
        self.tells(poly(Fraction(-1, 2), 1), turn_poly, 1)
        self.tells(poly(0, -1, 1), turn_poly, 2)
        self.tells(poly(Fraction(1, 4), 0, Fraction(-3, 2), 1), turn_poly, 3)
        self.tells(poly(0, 1, 0, -2, 1), turn_poly, 4)


if __name__ == "__main__":
    unittest.main()
