"""[19], [21]: polynomials of the row, and POLYs spread."""

import unittest
from fractions import Fraction
from math import comb

from powerrests.polys import mean_of, poly_mirrored, poly_moved, poly_scaled, poly_step, poly_stretched
from powerrests.rowpolys import row_poly, spread
from tests.helping import THIRTY, Case, due_at, number_of, poly, share, some_polys, value

PLACES = [Fraction(k, 3) - 3 for k in range(24)]


class RowPoly(Case):
    def test_the_number_at_each_place(self):
        for n in range(21):
            due = tuple(share(comb(n, k) * number_of(due_at(n - k))) for k in range(n + 1))
            self.tells(due, row_poly, n)
            self.is_right_poly(row_poly(n))

    def test_written_out(self):
        self.tells(poly(1), row_poly, 0)
        self.tells(poly(Fraction(-1, 2), 1), row_poly, 1)
        self.tells(poly(Fraction(1, 6), -1, 1), row_poly, 2)
        self.tells(poly(0, Fraction(1, 2), Fraction(-3, 2), 1), row_poly, 3)

    def test_its_step(self):
        self.assertEqual(poly_step(row_poly(0)), ())
        for n in range(1, 21):
            one = row_poly(n)
            for x in PLACES:
                self.assertEqual(value(one, x + 1) - value(one, x), n * x ** (n - 1))
            self.assertEqual(poly_step(one), poly(*[0] * (n - 1), n))

    def test_its_mean(self):
        self.assertEqual(mean_of(row_poly(0)), (1, 1))
        for n in range(1, 21):
            one = row_poly(n)
            self.assertEqual(sum(number_of(pair) / (k + 1) for k, pair in enumerate(one)), 0)
            self.assertEqual(mean_of(one), (0, 1))


class Spread(Case):
    def test_values(self):
        for one in some_polys():
            for m in range(1, 13):
                told = self.told(spread, one, m)
                self.assertEqual(len(told), len(one))
                self.has_values(told, len(one), lambda x: sum(value(one, x + Fraction(j, m)) for j in range(m)))

    def test_by_one(self):
        for one in some_polys():
            self.tells(one, spread, one, 1)

    def test_of_nothing_and_constants(self):
        for m in range(1, 13):
            self.tells((), spread, (), m)
            self.tells(poly(m), spread, poly(1), m)
            self.tells(poly(Fraction(-m, 3)), spread, poly(Fraction(-1, 3)), m)

    def test_written_out(self):
        self.tells(poly(Fraction(1, 2), 2), spread, poly(0, 1), 2)
        self.tells(poly(1, 3), spread, poly(0, 1), 3)
        self.tells(poly(Fraction(1, 4), 1, 2), spread, poly(0, 0, 1), 2)


class OfTheRow(Case):
    def test_mirrored_at_one(self):
        for n in range(21):
            due = poly_scaled(row_poly(n), ((-1) ** n, 1))
            self.assertEqual(poly_mirrored(row_poly(n), (1, 1)), due)

    def test_stretched(self):
        for n in range(21):
            for m in range(1, 13):
                due = poly_scaled(spread(row_poly(n), m), share(Fraction(m) ** (n - 1)))
                self.assertEqual(poly_stretched(row_poly(n), (m, 1)), due)

    def test_moved(self):
        for n in range(21):
            for h in (Fraction(0), Fraction(1), Fraction(-5, 3), Fraction(THIRTY, 8)):
                moved = poly_moved(row_poly(n), share(h))
                for x in (Fraction(0), Fraction(1), Fraction(-7, 2), Fraction(22, 7)):
                    due = sum(comb(n, k) * h ** (n - k) * value(row_poly(k), x) for k in range(n + 1))
                    self.assertEqual(value(moved, x), due)


if __name__ == "__main__":
    unittest.main()
