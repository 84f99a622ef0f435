"""[4], [14]: the row and its step back."""

import unittest
from fractions import Fraction
from math import comb

from powerrests.row import number_at, row_to, step_of
from tests.helping import THIRTY, Case, Odd, due_at, number_of, share


class Step(Case):
    def test_makes_the_sum_nought(self):
        odd = Odd(31)
        for n in range(1, 41):
            for shares in (odd.pairs(n, 30), odd.pairs(n, 2), ((0, 1),) * n, ((-1, 1),) * n, ((THIRTY, 1),) * n):
                told = self.told(step_of, shares)
                self.is_right_share(told)
                total = sum(comb(n + 1, k) * number_of(pair) for k, pair in enumerate(shares + (told,)))
                self.assertEqual(total, 0)

    def test_written_out(self):
        self.tells((-1, 2), step_of, ((1, 1),))
        self.tells((1, 6), step_of, ((1, 1), (-1, 2)))
        self.tells((-1, 1), step_of, ((2, 1),))
        self.tells(share(Fraction(-4, 3)), step_of, ((1, 1), (1, 1)))

    def test_steps_of_the_row(self):
        for n in range(1, 41):
            self.tells(due_at(n), step_of, tuple(due_at(k) for k in range(n)))


class Row(Case):
    def test_row_to(self):
        for n in range(41):
            self.tells(tuple(due_at(k) for k in range(n + 1)), row_to, n)

    def test_number_at(self):
        for n in range(41):
            self.tells(due_at(n), number_at, n)

    def test_begins(self):
        self.tells(((1, 1), (-1, 2), (1, 6), (0, 1), (-1, 30)), row_to, 4)
        self.tells(((1, 1),), row_to, 0)

    def test_nought_at_odd_places(self):
        for n in range(3, 41, 2):
            self.tells((0, 1), number_at, n)


if __name__ == "__main__":
    unittest.main()
