"""[24], [25]: powers of PARTS, and sums of their products."""

import unittest
from fractions import Fraction
from itertools import combinations, permutations
from math import prod

from powerrests.parts import like_powers, powers_by_products, products_by_powers, products_of
from tests.helping import THIRTY, Case, Odd, number_of, poly, share

NINE = 10 ** 9 - 1


def some_parts():
    odd = Odd(24)
    few = [(), (0,), (1,), (-1,), (7,), (NINE,), (-NINE,), (2, 3), (-2, 2), (0, 0, 0), (5, 0, 5, 5), (1, 2, 3, 4, -5)]
    eight = [(0,) * 8, (1,) * 8, (-1,) * 8, (NINE,) * 8, (-NINE,) * 8, (NINE, -NINE) * 4, (3, 3, 1, 0, 0, 2, 2, -7)]
    return few + eight + [tuple(odd.whole(9) for _ in range(many)) for many in (1, 2, 3, 5, 7, 8, 8)]


def other_orders(parts):
    middle = len(parts) // 2
    return [parts[::-1], tuple(sorted(parts)), parts[middle:] + parts[:middle], parts[1::2] + parts[::2]]


def some_shares():
    """Tuples of one to nine SHAREs, noughts and ones of thirty figures among them."""
    odd = Odd(25)
    few = [((0, 1),) * many for many in range(1, 10)] + [((1, 1),) * 9, ((-THIRTY, 1),) * 9, ((1, THIRTY),) * 4]
    return few + [odd.pairs(many, figures) for many in range(1, 10) for figures in (1, 30)]


def as_shares(numbers):
    return tuple((number, 1) for number in numbers)


class LikePowers(Case):
    def test_sums_of_powers(self):
        for parts in some_parts():
            for m in range(13):
                self.tells(tuple(sum(part ** k for part in parts) for k in range(m + 1)), like_powers, parts, m)

    def test_how_many_at_nought(self):
        for many in range(9):
            for m in (0, 1, 12):
                self.assertEqual(self.told(like_powers, (0,) * many, m), (many,) + (0,) * m)

    def test_none(self):
        for m in range(13):
            self.tells((0,) * (m + 1), like_powers, (), m)

    def test_another_order(self):
        for parts in some_parts():
            for other in other_orders(parts):
                self.tells(like_powers(parts, 12), like_powers, other, 12)

    def test_written_out(self):
        self.tells((3, 0, 14, -18, 98), like_powers, (1, 2, -3), 4)
        self.tells((2,), like_powers, (0, 5), 0)


class ProductsOf(Case):
    def test_sums_of_products(self):
        for parts in some_parts():
            due = tuple(sum(prod(taken) for taken in combinations(parts, k)) for k in range(len(parts) + 1))
            self.tells(due, products_of, parts)

    def test_another_order(self):
        for parts in some_parts():
            for other in other_orders(parts):
                self.tells(products_of(parts), products_of, other)
        for other in permutations((4, -1, 0, 9)):
            self.tells((1, 12, 23, -36, 0), products_of, other)

    def test_written_out(self):
        self.tells((1,), products_of, ())
        self.tells((1, 0), products_of, (0,))
        self.tells((1, -6), products_of, (-6,))
        self.tells((1, 6, 11, 6), products_of, (1, 2, 3))
        self.tells((1, 8, 28, 56, 70, 56, 28, 8, 1), products_of, (1,) * 8)


class ByRule(Case):
    def obeys(self, products, powers, last):
        """The rule, with noughts behind the products."""
        self.assertEqual(products[0], (1, 1))
        e = [number_of(pair) for pair in products] + [Fraction(0)] * (last + 1)
        s = [number_of(pair) for pair in powers]
        for k in range(1, last + 1):
            self.assertEqual(k * e[k], sum((-1) ** (i - 1) * e[k - i] * s[i] for i in range(1, k + 1)))

    def right_shares(self, told, many):
        self.assertIs(type(told), tuple)
        self.assertEqual(len(told), many)
        for pair in told:
            self.is_right_share(pair)

    def test_products_by_powers(self):
        for powers in some_shares():
            told = self.told(products_by_powers, powers)
            self.right_shares(told, len(powers))
            self.obeys(told, powers, len(powers) - 1)

    def test_powers_by_products(self):
        for products in some_shares():
            for m in range(13):
                told = self.told(powers_by_products, products, m)
                self.right_shares(told, m + 1)
                self.assertEqual(told[0], (len(products) - 1, 1))
                self.obeys(((1, 1),) + products[1:], told, m)

    def test_the_first_is_not_looked_at(self):
        for shares in some_shares():
            for first in ((0, 1), (1, 1), (8, 1), (-1, 3), (THIRTY, 2)):
                self.tells(products_by_powers(shares), products_by_powers, (first,) + shares[1:])
                self.tells(powers_by_products(shares, 12), powers_by_products, (first,) + shares[1:], 12)

    def test_one_share(self):
        for first in ((0, 1), (5, 1), (-2, 7)):
            self.tells(((1, 1),), products_by_powers, (first,))
            for m in range(13):
                self.tells(((0, 1),) * (m + 1), powers_by_products, (first,), m)

    def test_products_by_powers_agrees(self):
        for parts in some_parts():
            for last in range(9):
                due = (products_of(parts) + (0,) * 9)[:last + 1]
                self.tells(as_shares(due), products_by_powers, as_shares(like_powers(parts, last)))

    def test_powers_by_products_agrees(self):
        for parts in some_parts():
            for m in range(13):
                due = as_shares(like_powers(parts, m))
                self.tells(due, powers_by_products, as_shares(products_of(parts)), m)

    def test_the_one_undoes_the_other(self):
        for shares in some_shares():
            last = len(shares) - 1
            self.tells(((1, 1),) + shares[1:], products_by_powers, powers_by_products(shares, last))
            self.tells(((last, 1),) + shares[1:], powers_by_products, products_by_powers(shares), last)

    def test_written_out(self):
        self.tells(poly(1, 3, 2), products_by_powers, poly(9, 3, 5))
        self.tells(poly(1, Fraction(1, 2), Fraction(-1, 24)), products_by_powers,
                   poly(0, Fraction(1, 2), Fraction(1, 3)))
        self.tells(poly(2, 3, 5, 9, 17), powers_by_products, poly(1, 3, 2), 4)
        self.tells(poly(2, 3), powers_by_products, poly(1, 3, 2), 1)
        self.tells((share(2),), powers_by_products, poly(1, 3, 2), 0)


if __name__ == "__main__":
    unittest.main()
