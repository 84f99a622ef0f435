"""[10], [11]: POLYs."""

import unittest
from fractions import Fraction

from powerrests.polys import (
    is_poly, mean_of, poly_back, poly_mirrored, poly_moved, poly_pair, poly_plus, poly_scaled, poly_step,
    poly_stretched, poly_times, power_poly, value_at,
)
from tests.helping import ODD_THINGS, THIRTY, Case, Odd, deep, number_of, poly, share, value

HALF = Fraction(1, 2)
NO_SHARES = (
    None, True, 0, 1, "", "1/2", [1, 2], {}, (), (1,), (1, 2, 3), (0, 2), (2, 4), (1, 0), (1, -2), (True, 1), (1, True),
    (False, 1), ((1, 2), 1), ((1, 2), (1, 3)), ("1", 2),
)
SHARES = ((0, 1), (1, 1), (-1, 1), (1, 2), (-7, 3), (THIRTY, 1), (-1, THIRTY), (THIRTY, THIRTY - 1))


def some_polys():
    """(), constants, small ones, noughts ahead, and the longest with twelve figures."""
    odd = Odd(11)
    few = [(), poly(1), poly(-HALF), poly(0, 1), poly(0, 0, 0, Fraction(2, 3)), poly(5, 0, -1), poly(1, 2, 1)]
    return few + [odd.poly(many, 12) for many in (1, 2, 5, 12, 13)]


def long_polys():
    """POLYs of twenty-one SHAREs, told by the program."""
    odd = Odd(12)
    products = [poly_times(odd.poly(many, 12), odd.poly(22 - many, 12)) for many in (11, 13)]
    return products + [power_poly(20)]


class IsPoly(Case):
    def test_right_ones(self):
        odd = Odd(13)
        for thing in some_polys() + long_polys():
            self.tells(True, is_poly, thing)
        for many in (1, 2, 13, 14, 24, 25, 100, 1000):
            self.tells(True, is_poly, odd.poly(many, 3))
        self.tells(True, is_poly, ((10 ** 3999, 10 ** 3999 - 1), (-1, 10 ** 3999)))

    def test_nought_at_the_end(self):
        for thing in some_polys() + [((1, 2),) * 100, ((1, 2),) * 999]:
            self.tells(False, is_poly, thing + ((0, 1),))
            self.tells(False, is_poly, thing + ((0, 1), (0, 1)))

    def test_nought_elsewhere(self):
        for many in (1, 2, 99, 999):
            self.tells(True, is_poly, ((0, 1),) * many + ((1, 1),))
        self.tells(True, is_poly, poly(0, 1, 0, 0, -1))

    def test_a_thing_that_is_no_share(self):
        for wrong in NO_SHARES:
            for many in (1, 2, 5, 100):
                for at in {0, many // 2, many - 1}:
                    right = ((1, 2),) * many
                    self.tells(False, is_poly, right[:at] + (wrong,) + right[at + 1:])
        right = ((3, 4),) * 1000
        for at in (0, 1, 500, 998, 999):
            self.tells(False, is_poly, right[:at] + ((2, 4),) + right[at + 1:])

    def test_other_things(self):
        for thing in ODD_THINGS + (0, 1, -5, THIRTY, (1, 2), (0, 1), [(1, 2)], [(1, 1), (1, 2)], deep(39), "((1, 2),)"):
            self.tells(False, is_poly, thing)

    def test_powers(self):
        self.tells(((1, 1),), power_poly, 0)
        self.tells(((0, 1), (1, 1)), power_poly, 1)
        for n in range(21):
            self.tells(((0, 1),) * n + ((1, 1),), power_poly, n)


class Values(Case):
    def test_value_at(self):
        for one in some_polys() + long_polys():
            for at in SHARES:
                self.tells(share(value(one, number_of(at))), value_at, one, at)

    def test_value_of_nought(self):
        for at in SHARES:
            self.tells((0, 1), value_at, (), at)

    def test_value_at_nought_is_the_first_number(self):
        for one in some_polys():
            self.tells(one[0] if one else (0, 1), value_at, one, (0, 1))

    def test_value_far_off(self):
        self.tells((10 ** 60 + 1, 1), value_at, poly(1, 0, 1), (10 ** 30, 1))

    def test_mean(self):
        self.tells((0, 1), mean_of, ())
        self.tells((7, 3), mean_of, poly(Fraction(7, 3)))
        self.tells((11, 6), mean_of, poly(1, 1, 1))
        self.tells((0, 1), mean_of, poly(-HALF, 1))
        for one in some_polys() + long_polys():
            due = sum((number_of(pair) / (k + 1) for k, pair in enumerate(one)), Fraction(0))
            self.tells(share(due), mean_of, one)


class TwoPolys(Case):
    def adds_right(self, one, other):
        told = self.told(poly_plus, one, other)
        self.has_values(told, max(len(one), len(other)) - 1, lambda x: value(one, x) + value(other, x))

    def multiplies_right(self, one, other):
        told = self.told(poly_times, one, other)
        self.has_values(told, len(one) + len(other) - 1, lambda x: value(one, x) * value(other, x))

    def test_plus_and_times(self):
        for one in some_polys():
            for other in some_polys():
                self.adds_right(one, other)
                self.multiplies_right(one, other)

    def test_of_long_ones(self):
        for one in long_polys():
            for other in long_polys() + [(), poly(3)]:
                self.adds_right(one, other)
            self.multiplies_right(one, poly(3))

    def test_sums_that_cancel(self):
        self.tells((), poly_plus, (), ())
        self.tells(poly(2), poly_plus, poly(1, HALF), poly(1, -HALF))
        self.tells(poly(0, 1), poly_plus, poly(1, 1, 0, 7), poly(-1, 0, 0, -7))
        self.tells(poly(0, 1), poly_plus, poly(1, 1, 5, 7), poly(-1, 0, -5, -7))
        self.tells(poly(3, 0, 1), poly_plus, poly(1, 4, 1), poly(2, -4))
        for one in some_polys() + long_polys():
            opposite = tuple((-top, bottom) for top, bottom in one)
            self.tells((), poly_plus, one, opposite)
            self.tells(one, poly_plus, one, ())
            self.tells(one, poly_plus, (), one)

    def test_products_written_out(self):
        self.tells((), poly_times, (), ())
        self.tells((), poly_times, (), poly(1, 2))
        self.tells((), poly_times, poly(1, 2), ())
        self.tells(poly(-1, 0, 1), poly_times, poly(1, 1), poly(-1, 1))
        self.tells(power_poly(20), poly_times, power_poly(9), power_poly(11))
        self.tells(poly(1, 0, 0, 0, 4), poly_times, poly(1, 2, 2), poly(1, -2, 2))


class OnePoly(Case):
    def test_scaled(self):
        for one in some_polys() + long_polys():
            for factor in SHARES:
                scaled = self.told(poly_scaled, one, factor)
                self.has_values(scaled, len(one) - 1, lambda x: value(one, x) * number_of(factor))
            self.tells((), poly_scaled, one, (0, 1))
            self.tells(one, poly_scaled, one, (1, 1))

    def test_moved(self):
        for one in some_polys() + long_polys():
            for way in SHARES:
                moved = self.told(poly_moved, one, way)
                self.has_values(moved, len(one) - 1, lambda x: value(one, x + number_of(way)))
                self.tells(one, poly_moved, moved, (-way[0], way[1]))
            self.tells(one, poly_moved, one, (0, 1))
        self.tells(poly(1, 2, 1), poly_moved, poly(0, 0, 1), (1, 1))

    def test_mirrored(self):
        for one in some_polys() + long_polys():
            for at in SHARES:
                mirrored = self.told(poly_mirrored, one, at)
                self.has_values(mirrored, len(one) - 1, lambda x: value(one, number_of(at) - x))
                self.tells(one, poly_mirrored, mirrored, at)
        self.tells(poly(1, -1), poly_mirrored, poly(0, 1), (1, 1))
        self.tells(poly(0, -1, 1), poly_mirrored, poly(0, -1, 1), (1, 1))

    def test_stretched(self):
        for one in some_polys() + long_polys():
            for factor in SHARES:
                stretched = self.told(poly_stretched, one, factor)
                self.has_values(stretched, len(one) - 1, lambda x: value(one, x * number_of(factor)))
            self.tells(one, poly_stretched, one, (1, 1))

    def test_stretched_by_nought(self):
        for one in some_polys() + long_polys():
            self.tells(() if one == () or one[0] == (0, 1) else one[:1], poly_stretched, one, (0, 1))
        self.tells(poly(5), poly_stretched, poly(5, 3, 1), (0, 1))
        self.tells((), poly_stretched, poly(0, 3, 1), (0, 1))

    def test_steps_and_pairs(self):
        for one in some_polys() + long_polys():
            less = max(len(one) - 2, -1)
            self.has_values(self.told(poly_step, one), less, lambda x: value(one, x + 1) - value(one, x))
            self.has_values(self.told(poly_back, one), less, lambda x: value(one, x) - value(one, x - 1))
            self.has_values(self.told(poly_pair, one), len(one) - 1, lambda x: value(one, x + 1) + value(one, x))

    def test_steps_written_out(self):
        for constant in ((), poly(1), poly(-HALF)):
            self.tells((), poly_step, constant)
            self.tells((), poly_back, constant)
        self.tells((), poly_pair, ())
        self.tells(poly(-1), poly_pair, poly(-HALF))
        self.tells(poly(1, 2), poly_step, poly(0, 0, 1))
        self.tells(poly(-1, 2), poly_back, poly(0, 0, 1))
        self.tells(poly(1, 2, 2), poly_pair, poly(0, 0, 1))
        self.tells(poly(0, 2), poly_pair, poly(-HALF, 1))


if __name__ == "__main__":
    unittest.main()
