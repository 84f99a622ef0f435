"""[8]: primes."""

import unittest

from powerrests.primes import is_prime, parts_of, primes_to
from tests.helping import ODD_THINGS, THIRTY, Case, deep

MILLION = 10 ** 6


def sieve(last):
    """Whether each number from 0 to last is a prime, without the program."""
    marks = [k >= 2 for k in range(last + 1)]
    for k in range(2, last + 1):
        if k * k <= last and marks[k]:
            for many in range(k * k, last + 1, k):
                marks[many] = False
    return marks


MARKS = sieve(MILLION)
SMALL = [k for k in range(2001) if MARKS[k]]


class IsPrime(Case):
    def test_small_numbers(self):
        for k in range(-100, 5000):
            self.tells(k >= 0 and MARKS[k], is_prime, k)

    def test_to_a_million(self):
        for k in list(range(0, MILLION + 1, 271)) + list(range(MILLION - 300, MILLION + 1)):
            self.tells(MARKS[k], is_prime, k)

    def test_squares_and_products(self):
        for at, p in enumerate(SMALL):
            for q in SMALL[at:at + 3] + [997, 1009]:
                if p * q <= MILLION:
                    self.tells(False, is_prime, p * q)
        self.tells(False, is_prime, 997 * 997)
        self.tells(False, is_prime, 2 * 499979)
        self.tells(True, is_prime, 999983)

    def test_below_two(self):
        for k in (1, 0, -1, -2, -3, -7, -MILLION, -THIRTY, -10 ** 3999):
            self.tells(False, is_prime, k)

    def test_other_things(self):
        for thing in ODD_THINGS + ("2", "7", (2,), (7, 1), (2, 3, 5), [2], [7], {2: 3}, {7: 7}, deep(39)):
            self.tells(False, is_prime, thing)


class PrimesTo(Case):
    def test_none(self):
        for n in (1, 0, -1, -2, -5, -MILLION, -THIRTY):
            self.tells((), primes_to, n)

    def test_some(self):
        self.tells((2,), primes_to, 2)
        self.tells((2, 3), primes_to, 3)
        self.tells((2, 3, 5, 7), primes_to, 10)
        for n in list(range(2, 130)) + list(range(1985, 2001)):
            self.tells(tuple(p for p in SMALL if p <= n), primes_to, n)


class PartsOf(Case):
    def right_parts(self, n):
        pairs = self.told(parts_of, n)
        self.assertIs(type(pairs), tuple)
        product = 1
        for pair in pairs:
            self.assertIs(type(pair), tuple)
            p, many = pair
            self.assertEqual((type(p), type(many)), (int, int))
            self.assertTrue(MARKS[p], (n, p))
            self.assertGreaterEqual(many, 1)
            product *= p ** many
        self.assertEqual(product, n)
        rising = [p for p, many in pairs]
        self.assertEqual(rising, sorted(set(rising)))

    def test_of_one(self):
        self.tells((), parts_of, 1)

    def test_of_primes(self):
        for p in SMALL + [499979, 999979, 999983]:
            self.tells(((p, 1),), parts_of, p)

    def test_of_powers_of_one_prime(self):
        for p in SMALL:
            many = 1
            while p ** many <= MILLION:
                self.tells(((p, many),), parts_of, p ** many)
                many += 1

    def test_of_many(self):
        for n in list(range(1, 3000)) + list(range(1, MILLION, 9973)) + list(range(MILLION - 40, MILLION + 1)):
            self.right_parts(n)

    def test_of_a_million(self):
        self.tells(((2, 6), (5, 6)), parts_of, MILLION)
        self.tells(((2, 1), (499979, 1)), parts_of, 999958)
        self.tells(((2, 1), (3, 1), (5, 1), (7, 1), (11, 1), (13, 1), (17, 1)), parts_of, 510510)


if __name__ == "__main__":
    unittest.main()
