"""[5], [6]: SHAREs."""

import unittest
from fractions import Fraction
from math import floor, gcd

from powerrests.errors import NoShare
from powerrests.shares import floor_of, is_less, is_share, lowest, minus, over, plus, power_of, times, whole_of
from tests.helping import ODD_THINGS, THIRTY, Case, Odd, deep, number_of, share

WHOLES = (0, 1, -1, 2, -2, 3, 4, -6, 12, -35, 10 ** 15, -(10 ** 20) + 1, THIRTY, -THIRTY, 6 ** 38, -(2 ** 99))


def some_shares():
    odd = Odd(5)
    few = [share(Fraction(top, bottom)) for top in range(-4, 5) for bottom in range(1, 5)]
    return few + [(THIRTY, 1), (-THIRTY, 1), (1, THIRTY), (-1, THIRTY), (THIRTY, THIRTY - 1)] + list(odd.pairs(12, 30))


class IsShare(Case):
    def test_few_figures(self):
        for top in range(-30, 31):
            for bottom in range(-30, 31):
                self.tells(bottom >= 1 and gcd(top, bottom) == 1, is_share, (top, bottom))

    def test_nought(self):
        self.tells(True, is_share, (0, 1))
        for bottom in (0, -1, 2, 3, -2, THIRTY):
            self.tells(False, is_share, (0, bottom))

    def test_many_figures(self):
        great = 10 ** 3999
        for top, bottom in ((great, great + 1), (-great - 1, great), (great, 1), (1, great), (3 ** 8000, 2 ** 13000)):
            self.tells(True, is_share, (top, bottom))
            self.tells(True, is_share, (-top, bottom))
            self.tells(False, is_share, (top, -bottom))
            self.tells(False, is_share, (-top, -bottom))
        for top, bottom in ((great, great), (great, great + 2), (great, 5), (0, great), (3 ** 8000, 6 ** 5000)):
            self.tells(False, is_share, (top, bottom))
            self.tells(False, is_share, (-top, bottom))

    def test_only_a_great_number_divides_both(self):
        prime = 2 ** 127 - 1
        self.tells(False, is_share, (prime * 2, prime * 3))
        self.tells(False, is_share, (-prime, prime))
        self.tells(False, is_share, (1009 * 1013, 1009 * 1019))
        self.tells(True, is_share, (1013, 1019))

    def test_truths_are_no_whole_numbers(self):
        for thing in ((True, 1), (1, True), (True, True), (False, 1), (False, True), (1, False), (3, True), (True, 3)):
            self.tells(False, is_share, thing)

    def test_other_things(self):
        for thing in ODD_THINGS + (0, 1, -5, 10 ** 3999, [0, 1], [3, 4], (), (1,), (1, 2, 3), (1, 2, 1), (0, 1, 1)):
            self.tells(False, is_share, thing)
        for thing in ((1, "2"), ("1", 2), (None, 1), (1, None), ([1], 2), (1, [2]), ({}, 1), (1, {}), ("a", "b"), "ab"):
            self.tells(False, is_share, thing)
        for thing in (((1, 2), (1, 3)), ((1, 2),), ((1, 2), 3), (1, (2, 3)), deep(39), (deep(38), 1), [[1] * 2000] * 2):
            self.tells(False, is_share, thing)


class Lowest(Case):
    def test_any_signs(self):
        for top in range(-24, 25):
            for bottom in range(-24, 25):
                if bottom != 0:
                    self.tells(share(Fraction(top, bottom)), lowest, top, bottom)

    def test_thirty_figures(self):
        for top in WHOLES:
            for bottom in WHOLES:
                if bottom != 0:
                    self.tells(share(Fraction(top, bottom)), lowest, top, bottom)

    def test_bottom_nought_is_refused(self):
        for top in WHOLES:
            self.refuses(NoShare, {"word": "bottom"}, lowest, top, 0)


class Reckoning(Case):
    def test_two_shares(self):
        for one in some_shares():
            for other in some_shares():
                a, b = number_of(one), number_of(other)
                self.tells(share(a + b), plus, one, other)
                self.tells(share(a - b), minus, one, other)
                self.tells(share(a * b), times, one, other)
                self.tells(a < b, is_less, one, other)
                if b != 0:
                    self.tells(share(a / b), over, one, other)

    def test_written_out(self):
        self.tells((5, 6), plus, (1, 2), (1, 3))
        self.tells((0, 1), plus, (-1, 2), (1, 2))
        self.tells((1, 6), minus, (1, 2), (1, 3))
        self.tells((-1, 6), minus, (1, 3), (1, 2))
        self.tells((-1, 2), times, (-3, 4), (2, 3))
        self.tells((0, 1), times, (0, 1), (-7, 3))
        self.tells((-3, 2), over, (1, 2), (-1, 3))
        self.tells((0, 1), over, (0, 1), (-7, 3))
        self.tells(True, is_less, (-1, 2), (-1, 3))
        self.tells(False, is_less, (2, 6 // 2), (2, 3))

    def test_over_nought_is_refused(self):
        for one in some_shares() + [(0, 1)]:
            self.refuses(NoShare, {"word": "nought"}, over, one, (0, 1))

    def test_powers(self):
        for one in some_shares():
            for n in (0, 1, 2, 3, 7, 39, 40):
                self.tells(share(number_of(one) ** n), power_of, one, n)

    def test_powers_of_nought(self):
        self.tells((1, 1), power_of, (0, 1), 0)
        for n in range(1, 41):
            self.tells((0, 1), power_of, (0, 1), n)

    def test_floor_and_whole(self):
        for one in some_shares():
            self.tells(floor(number_of(one)), floor_of, one)
            self.tells(one[0] if one[1] == 1 else None, whole_of, one)

    def test_floor_below_nought(self):
        self.tells(-1, floor_of, (-1, 2))
        self.tells(-1, floor_of, (-1, THIRTY))
        self.tells(-2, floor_of, (-3, 2))
        self.tells(-3, floor_of, (-3, 1))
        self.tells(0, floor_of, (0, 1))
        self.tells(0, floor_of, (1, 2))

    def test_whole_is_none_where_the_bottom_is_not_one(self):
        self.tells(None, whole_of, (1, 2))
        self.tells(None, whole_of, (-7, THIRTY - 1))
        self.tells(0, whole_of, (0, 1))
        self.tells(-THIRTY, whole_of, (-THIRTY, 1))


if __name__ == "__main__":
    unittest.main()
