"""[4], [28], [29], [30]: rests of SHAREs, of the row's numbers, and rest papers."""

import unittest
from fractions import Fraction

from powerrests.errors import NoRest
from powerrests.restjudge import lets_rest
from powerrests.rests import far_rest, rest_paper, row_rest, share_rest
from tests.helping import LONG_ROW, PRIMES, THIRTY, Case, Odd, due_at, far_due, share

FAR_PRIMES = [p for p in PRIMES if p >= 5]
FARTHEST = 10 ** 30 - 2


def some_shares(p):
    odd = Odd(p)
    few = [(0, 1), (1, 1), (-1, 1), (1, p + 1), (-3, p - 1), (p, p + 1), (-p, 2 * p - 1), (THIRTY, THIRTY - 1)]
    few += [share(Fraction(top, bottom)) for top in range(-3, 4) for bottom in (1, 2, 3, 5, 6, 197, 199, 1000)]
    return few + list(odd.pairs(20, 30)) + list(odd.pairs(20, 2))


def far_places(p):
    """FAR places, small and great ones, such that p divides some, and p - 1 none."""
    odd = Odd(p)
    few = list(range(2, 42, 2)) + [p + 1, 2 * p, 4 * p, 2 * p * p, p * (p - 3), p * (p + 1), FARTHEST, FARTHEST - 2]
    great = [FARTHEST // (2 * p) * 2 * p, 10 ** 29, 10 ** 29 + p + 3]
    return [n for n in few + great + [2 * abs(odd.whole(29)) + 2 for _ in range(6)] if n % (p - 1) != 0]


class ShareRest(Case):
    def test_rests(self):
        for p in PRIMES:
            for top, bottom in some_shares(p):
                if bottom % p != 0:
                    rest = self.told(share_rest, (top, bottom), p)
                    self.assertIs(type(rest), int)
                    self.assertTrue(0 <= rest <= p - 1)
                    self.assertEqual((rest * bottom - top) % p, 0)

    def test_refused(self):
        for p in PRIMES:
            for top, bottom in [(1, p), (-1, p), (THIRTY * p + 1, p * p), (-2 * p - 1, 7 * p), (1, p * 10 ** 25)]:
                pair = share(Fraction(top, bottom))
                self.refuses(NoRest, {"number": pair, "prime": p}, share_rest, pair, p)

    def test_the_very_share_is_kept(self):
        for p in (2, 3, 7, 199):
            pair = (1, p * 11 ** 12)
            with self.assertRaises(NoRest) as caught:
                share_rest(pair, p)
            self.assertIs(caught.exception.number, pair)

    def test_written_out(self):
        for due, pair, p in ((0, (0, 1), 2), (1, (1, 3), 2), (2, (1, 2), 3), (5, (1, 3), 7), (3, (-1, 2), 7),
                             (0, (7, 3), 7), (198, (-1, 1), 199), (100, (1, 2), 199)):
            self.tells(due, share_rest, pair, p)


class RowRest(Case):
    def test_each_place(self):
        for p in PRIMES:
            for n in range(41):
                top, bottom = due_at(n)
                if bottom % p == 0:
                    self.refuses(NoRest, {"number": n, "prime": p}, row_rest, n, p)
                else:
                    self.tells(top * pow(bottom, -1, p) % p, row_rest, n, p)

    def test_written_out(self):
        self.tells(1, row_rest, 0, 2)
        self.refuses(NoRest, {"number": 1, "prime": 2}, row_rest, 1, 2)
        self.refuses(NoRest, {"number": 2, "prime": 3}, row_rest, 2, 3)
        self.refuses(NoRest, {"number": 12, "prime": 13}, row_rest, 12, 13)
        self.tells(1, row_rest, 2, 5)
        self.tells(0, row_rest, 3, 2)


class FarRest(Case):
    def test_to_forty(self):
        for p in FAR_PRIMES:
            for n in range(2, 41, 2):
                if n % (p - 1) != 0:
                    top, bottom = share(Fraction(*due_at(n)) / n)
                    self.assertNotEqual(bottom % p, 0)
                    self.tells(top * pow(bottom, -1, p) % p, far_rest, n, p)

    def test_beyond_the_row(self):
        for p in FAR_PRIMES:
            for n in range(42, 199, 2):
                if n % (p - 1) != 0:
                    number = LONG_ROW[n] / n
                    self.assertEqual((self.told(far_rest, n, p) * number.denominator - number.numerator) % p, 0)

    def test_far_places(self):
        for p in FAR_PRIMES:
            for n in far_places(p):
                self.tells(far_due(n, p), far_rest, n, p)

    def test_places_alike(self):
        for p in FAR_PRIMES:
            for least in {2, 4, 10, p - 3, (p - 1) // 4 * 2 + 2}:
                if least >= 2 and least % (p - 1) != 0:
                    due = far_rest(least, p)
                    for many in (1, 2, p, p + 1, 10 ** 20, (FARTHEST - least) // (p - 1)):
                        self.tells(due, far_rest, least + many * (p - 1), p)

    def test_places_that_the_prime_divides(self):
        for p in FAR_PRIMES:
            for many in (2, 4, p + 1, 2 * p, 10 ** 20 + 6, 2 * p * 10 ** 24):
                if many * p % (p - 1) != 0:
                    self.tells(far_due(many * p, p), far_rest, many * p, p)

    def test_written_out(self):
        # 1 / 12 leaves 3 by 5 and by 7; the top of the number at 32 over 32 is one that 37 divides.
        self.tells(3, far_rest, 2, 5)
        self.tells(3, far_rest, 2, 7)
        self.tells(0, far_rest, 32, 37)
        self.tells(0, far_rest, 32 + 36 * 10 ** 28, 37)
        self.tells(0, far_rest, 44, 59)
        self.tells(0, far_rest, 58, 67)

    def test_refused(self):
        for p in FAR_PRIMES:
            for n in (p - 1, 2 * (p - 1), p * (p - 1), 10 ** 20 * (p - 1), FARTHEST // (p - 1) * (p - 1)):
                self.refuses(NoRest, {"number": n, "prime": p}, far_rest, n, p)
                self.refuses(NoRest, {"number": n, "prime": p}, rest_paper, n, p)


class RestPaper(Case):
    def test_bears_the_far_rest(self):
        for p in FAR_PRIMES:
            for n in far_places(p):
                # Another one may be told the next time.
                for _ in range(2):
                    paper = rest_paper(n, p)
                    self.assertIs(type(paper), int)
                    self.assertTrue(2 <= paper <= p - 1)
                    self.assertNotEqual(pow(paper, n, p), 1)
                    self.assertIs(lets_rest(n, p, far_due(n, p), paper), True)


if __name__ == "__main__":
    unittest.main()
