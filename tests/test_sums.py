"""[4], [16], [18]: sums."""

import unittest
from fractions import Fraction

from powerrests.polys import poly_step, value_at
from powerrests.sums import even_sum, odd_sum, power_sum, spaced_sum, sum_below, summed
from tests.helping import GREAT, Case, number_of, poly, share, some_polys, value

TWELVE = 10 ** 12 - 1


def added(one, many):
    return sum((value(one, k) for k in range(many)), Fraction(0))


class Summed(Case):
    def test_nought_at_nought_and_its_step(self):
        for one in some_polys():
            told = self.told(summed, one)
            self.is_right_poly(told)
            self.assertEqual(len(told), len(one) + 1 if one else 0)
            self.assertEqual(value(told, 0), 0)
            # At so many places, that the step can be no other POLY.
            for x in range(-3, len(one) + 3):
                self.assertEqual(value(told, x + 1) - value(told, x), value(one, x))
            self.assertEqual(poly_step(told), one)

    def test_written_out(self):
        self.tells((), summed, ())
        self.tells(poly(0, -3), summed, poly(-3))
        self.tells(poly(0, Fraction(-1, 2), Fraction(1, 2)), summed, poly(0, 1))
        self.tells(poly(0, Fraction(1, 6), Fraction(-1, 2), Fraction(1, 3)), summed, poly(0, 0, 1))
        self.tells(poly(0, 0, 1), summed, poly(1, 2))


class SumBelow(Case):
    def test_few(self):
        for one in some_polys():
            for many in (0, 1, 2, 3, 10, 30):
                self.tells(share(added(one, many)), sum_below, one, many)

    def test_none(self):
        for one in some_polys():
            self.tells((0, 1), sum_below, one, 0)

    def test_great(self):
        for one in some_polys():
            for many in (GREAT, GREAT // 3, 10 ** 15):
                told = self.told(sum_below, one, many)
                self.is_right_share(told)
                self.assertEqual(number_of(told), value(summed(one), many))
                ahead = self.told(sum_below, one, many - 1)
                self.assertEqual(number_of(told) - number_of(ahead), value(one, many - 1))

    def test_great_written_out(self):
        self.tells((GREAT * (GREAT - 1) // 2, 1), sum_below, poly(0, 1), GREAT)
        self.tells((GREAT // 2, 1), sum_below, poly(Fraction(1, 2)), GREAT)
        self.tells((0, 1), sum_below, (), GREAT)
        # The value of the summed one is that sum.
        self.assertEqual(value_at(summed(poly(0, 1)), (GREAT, 1)), (GREAT * (GREAT - 1) // 2, 1))


class PowerSums(Case):
    def test_powers(self):
        for n in range(21):
            for many in (0, 1, 2, 3, 7, 25):
                self.tells(sum(k ** n for k in range(many)), power_sum, n, many)

    def test_even_and_odd(self):
        for n in range(21):
            for many in (0, 1, 2, 3, 7, 25):
                self.tells(sum((2 * k) ** n for k in range(many)), even_sum, n, many)
                self.tells(sum((2 * k + 1) ** n for k in range(many)), odd_sum, n, many)

    def test_power_by_nought_counts(self):
        for many in (0, 1, 2, 10 ** 9, GREAT):
            self.tells(many, power_sum, 0, many)
            self.tells(many, even_sum, 0, many)
            self.tells(many, odd_sum, 0, many)
            for first, step in ((0, 0), (0, 5), (-4, 2), (TWELVE, -TWELVE)):
                self.tells(many, spaced_sum, 0, first, step, many)

    def test_spaced(self):
        edges = (0, 1, -1, 2, -3, TWELVE, -TWELVE, 123456789012, -987654321)
        for n in (0, 1, 2, 3, 8, 19, 20):
            for first in edges:
                for step in edges:
                    for many in (0, 1, 6):
                        due = sum((first + k * step) ** n for k in range(many))
                        self.tells(due, spaced_sum, n, first, step, many)

    def test_step_nought(self):
        for n in range(21):
            for first in (0, 1, -1, -7, TWELVE):
                for many in (0, 1, 5, GREAT):
                    self.tells(many * first ** n, spaced_sum, n, first, 0, many)

    def test_great(self):
        for n in range(21):
            last = GREAT - 1
            self.assertEqual(self.told(power_sum, n, GREAT) - power_sum(n, last), last ** n)
            self.assertEqual(self.told(even_sum, n, GREAT) - even_sum(n, last), (2 * last) ** n)
            self.assertEqual(self.told(odd_sum, n, GREAT) - odd_sum(n, last), (2 * last + 1) ** n)
            for first, step in ((TWELVE, -TWELVE), (-7, 3), (0, TWELVE)):
                more = self.told(spaced_sum, n, first, step, GREAT) - spaced_sum(n, first, step, last)
                self.assertEqual(more, (first + last * step) ** n)

    def test_great_written_out(self):
        self.tells(GREAT * (GREAT - 1) // 2, power_sum, 1, GREAT)
        self.tells((GREAT * (GREAT - 1) // 2) ** 2, power_sum, 3, GREAT)
        self.tells(GREAT * (GREAT - 1) * (2 * GREAT - 1) // 6, power_sum, 2, GREAT)
        self.tells(GREAT * (GREAT - 1), even_sum, 1, GREAT)
        self.tells(GREAT * GREAT, odd_sum, 1, GREAT)
        self.tells(GREAT * GREAT * (2 * GREAT * GREAT - 1), odd_sum, 3, GREAT)

    def test_whole_numbers_are_told(self):
        for told in (power_sum(2, 5), even_sum(2, 5), odd_sum(2, 5), spaced_sum(2, -3, 4, 5), power_sum(1, 0)):
            self.assertIs(type(told), int)


if __name__ == "__main__":
    unittest.main()
