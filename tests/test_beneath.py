"""[4], [26], [27]: what stands beneath the row's numbers."""

import unittest
from math import prod

from powerrests.beneath import beneath_paper, primes_beneath, whole_at
from tests.helping import Case, due_at, due_beneath, due_whole


class PrimesBeneath(Case):
    def test_each_place(self):
        for n in list(range(130)) + list(range(970, 1001)) + [210, 420, 720, 840]:
            self.tells(due_beneath(n), primes_beneath, n)

    def test_nought_one_and_odd_ones(self):
        self.tells((), primes_beneath, 0)
        self.tells((2,), primes_beneath, 1)
        for n in range(3, 1000, 2):
            self.tells((), primes_beneath, n)

    def test_written_out(self):
        self.tells((2, 3), primes_beneath, 2)
        self.tells((2, 3, 5), primes_beneath, 4)
        self.tells((2, 3, 7), primes_beneath, 6)
        self.tells((2, 3, 5, 7, 13), primes_beneath, 12)
        self.tells((2, 3, 5, 7, 13, 19, 37), primes_beneath, 36)
        self.tells((2, 3, 5, 11, 41), primes_beneath, 40)
        self.tells((2, 3), primes_beneath, 998)
        self.tells((), primes_beneath, 999)
        self.tells((2, 3, 5, 11, 41, 101, 251), primes_beneath, 1000)


class WholeAt(Case):
    def test_each_place(self):
        for n in range(41):
            due = due_whole(n)
            self.assertEqual(due.denominator, 1)
            self.tells(due.numerator, whole_at, n)

    def test_written_out(self):
        for n, due in ((0, 1), (1, 0), (2, 1), (3, 0), (4, 1), (12, 1), (14, 2), (16, -6), (18, 56), (39, 0)):
            self.tells(due, whole_at, n)


class Paper(Case):
    def test_each_place(self):
        for n in range(41):
            self.tells((due_whole(n).numerator, due_beneath(n)), beneath_paper, n)

    def test_just_the_product_stands_beneath(self):
        for n in range(2, 41, 2):
            self.assertEqual(prod(primes_beneath(n)), due_at(n)[1])

    def test_written_out(self):
        self.tells((1, ()), beneath_paper, 0)
        self.tells((0, (2,)), beneath_paper, 1)
        self.tells((1, (2, 3)), beneath_paper, 2)
        self.tells((0, ()), beneath_paper, 3)
        self.tells((-6, (2, 3, 5, 17)), beneath_paper, 16)


if __name__ == "__main__":
    unittest.main()
