"""[12], [13]: differences."""

import unittest
from fractions import Fraction

from powerrests.differences import backs_of, columns_of, next_value, poly_of_backs, poly_through
from powerrests.polys import poly_times, power_poly
from tests.helping import THIRTY, Case, Odd, number_of, poly, share, value


def some_values():
    """VALUES of one to twelve SHAREs of thirty figures, all alike, noughts alone."""
    odd = Odd(21)
    different = [odd.pairs(many, 30) for many in range(1, 13)]
    small = [odd.pairs(many, 2) for many in range(1, 13)]
    same = [((7, 3),) * many for many in range(1, 13)] + [((0, 1),) * many for many in range(1, 13)]
    return different + small + same


def some_polys():
    odd = Odd(22)
    few = [(), poly(1), poly(Fraction(-1, 2)), poly(0, 1), poly(0, 0, 0, 5), poly(1, 0, -1), power_poly(12)]
    return few + [odd.poly(many, 12) for many in range(1, 14)]


def long_polys():
    odd = Odd(23)
    return [power_poly(20), poly_times(odd.poly(13, 12), odd.poly(9, 12))]


def values_of(one, many):
    return tuple(share(value(one, k)) for k in range(many))


def backs(one):
    """The back numbers, by plain differences of values at 0, -1, -2, .. ."""
    column = [value(one, -k) for k in range(len(one))]
    numbers = []
    while column:
        numbers.append(share(column[0]))
        column = [near - far for near, far in zip(column, column[1:])]
    return tuple(numbers)


class Columns(Case):
    def test_columns(self):
        for values in some_values():
            columns = self.told(columns_of, values)
            self.assertIs(type(columns), tuple)
            self.assertEqual([len(column) for column in columns], list(range(len(values), 0, -1)))
            self.assertEqual(columns[0], values)
            for column in columns:
                self.assertIs(type(column), tuple)
                for pair in column:
                    self.is_right_share(pair)
            for column, behind in zip(columns, columns[1:]):
                for k, pair in enumerate(behind):
                    self.assertEqual(number_of(pair), number_of(column[k + 1]) - number_of(column[k]))

    def test_written_out(self):
        self.tells((((-1, 2),),), columns_of, ((-1, 2),))
        self.tells((poly(1, 4, 9), poly(3, 5), poly(2)), columns_of, poly(1, 4, 9))
        self.tells((poly(4, 4), poly(0)), columns_of, poly(4, 4))

    def test_next_value(self):
        self.tells((16, 1), next_value, poly(1, 4, 9))
        self.tells((-1, 2), next_value, ((-1, 2),))
        self.tells((THIRTY, 1), next_value, ((THIRTY, 1),) * 12)
        for values in some_values():
            told = self.told(next_value, values)
            self.is_right_share(told)
            due = sum((number_of(column[-1]) for column in columns_of(values)), Fraction(0))
            self.assertEqual(number_of(told), due)

    def test_next_value_of_a_polynomial_is_its_own(self):
        for one in some_polys():
            for many in range(max(1, len(one)), 13):
                self.tells(share(value(one, many)), next_value, values_of(one, many))


class Through(Case):
    def test_goes_through(self):
        for values in some_values():
            told = self.told(poly_through, values)
            self.is_right_poly(told)
            self.assertLessEqual(len(told), len(values))
            self.assertEqual(values_of(told, len(values)), values)

    def test_noughts_alone(self):
        for many in range(1, 13):
            self.tells((), poly_through, ((0, 1),) * many)

    def test_finds_a_known_one_again(self):
        for one in some_polys():
            for many in range(max(1, len(one)), 13):
                self.tells(one, poly_through, values_of(one, many))

    def test_written_out(self):
        self.tells(poly(1, 2, 1), poly_through, poly(1, 4, 9))
        self.tells(poly(3), poly_through, poly(3))
        self.tells(poly(3), poly_through, poly(3, 3, 3))


class Backs(Case):
    def test_backs_of(self):
        for one in some_polys() + long_polys():
            self.tells(backs(one), backs_of, one)
        self.tells((), backs_of, ())
        self.tells(poly(0, -1, 2), backs_of, poly(0, 0, 1))

    def test_poly_of_backs(self):
        self.tells(poly(0, 0, 1), poly_of_backs, poly(0, -1, 2))
        self.tells(poly(5), poly_of_backs, poly(5))
        odd = Odd(24)
        for many in range(1, 22):
            numbers = odd.poly(many, 12)
            told = self.told(poly_of_backs, numbers)
            self.is_right_poly(told)
            self.assertEqual(backs(told), numbers)

    def test_noughts_alone(self):
        for many in range(22):
            self.tells((), poly_of_backs, ((0, 1),) * many)

    def test_noughts_at_the_end_do_not_count(self):
        odd = Odd(25)
        for many in range(1, 20):
            numbers = odd.poly(many, 30)
            due = poly_of_backs(numbers)
            for noughts in (1, 2, 21 - many):
                if many + noughts <= 21:
                    self.tells(due, poly_of_backs, numbers + ((0, 1),) * noughts)

    def test_the_one_undoes_the_other(self):
        for one in some_polys() + long_polys():
            self.tells(one, poly_of_backs, self.told(backs_of, one))
        odd = Odd(26)
        for many in range(1, 22):
            numbers = odd.poly(many, 30)
            self.tells(numbers, backs_of, self.told(poly_of_backs, numbers))


if __name__ == "__main__":
    unittest.main()
