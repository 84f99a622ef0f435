"""[9]: rests of whole numbers."""

import unittest

from powerrests.errors import NoRest
from powerrests.restsof import inverse_of, rest_of, rest_of_power
from tests.helping import PRIMES, THIRTY, Case, Odd


def some_numbers(p):
    odd = Odd(p)
    return list(range(-2 * p, 2 * p + 1, max(1, p // 9))) + [
        p, -p, p - 1, -p - 1, p * p, -(p ** 3), THIRTY, -THIRTY, THIRTY // p * p, -(THIRTY // p * p),
    ] + [odd.whole(30) for _ in range(6)]


class Rests(Case):
    def test_rest_of(self):
        for p in PRIMES:
            for number in some_numbers(p):
                rest = self.told(rest_of, number, p)
                self.assertIs(type(rest), int)
                self.assertTrue(0 <= rest <= p - 1)
                self.assertEqual((number - rest) % p, 0)

    def test_rest_of_power(self):
        for p in PRIMES:
            for a in some_numbers(p):
                for n in (0, 1, 2, 3, p - 2, p - 1, p, 20):
                    due = a ** n - a ** n // p * p
                    self.tells(due, rest_of_power, a, n, p)

    def test_rest_of_great_powers(self):
        for p in PRIMES:
            for a in some_numbers(p):
                for n in (10 ** 29, THIRTY, 2 ** 99, THIRTY // (p - 1) * (p - 1)):
                    self.tells(pow(a, n, p), rest_of_power, a, n, p)

    def test_power_by_nought_is_one(self):
        for p in PRIMES:
            for a in (0, 1, -1, p, -p, THIRTY, THIRTY // p * p):
                self.tells(1, rest_of_power, a, 0, p)

    def test_powers_of_what_the_prime_divides(self):
        for p in PRIMES:
            for a in (0, p, -p, THIRTY // p * p):
                for n in (1, 2, p - 1, THIRTY):
                    self.tells(0, rest_of_power, a, n, p)


class Inverses(Case):
    def test_inverse_of(self):
        for p in PRIMES:
            for a in some_numbers(p) + list(range(1, p)):
                if a % p != 0:
                    inverse = self.told(inverse_of, a, p)
                    self.assertIs(type(inverse), int)
                    self.assertTrue(1 <= inverse <= p - 1)
                    self.assertEqual(inverse * a % p, 1)

    def test_none_where_the_prime_divides(self):
        for p in PRIMES:
            for a in (0, p, -p, 7 * p, -12 * p, p * p, THIRTY // p * p, -(THIRTY // p * p)):
                self.refuses(NoRest, {"number": a, "prime": p}, inverse_of, a, p)


if __name__ == "__main__":
    unittest.main()
