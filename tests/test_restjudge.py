"""[4], [30]: cut sums, and the judge of far rests."""

import unittest

from powerrests.errors import NoPaper
from powerrests.restjudge import cut_sum, lets_rest
from powerrests.rests import far_rest, rest_paper
from tests.helping import ODD_THINGS, PRIMES, THIRTY, Case, deep, far_due

FAR_PRIMES = [p for p in PRIMES if p >= 5]
FARTHEST = 10 ** 30 - 2


def some_places(p):
    return [n for n in (2, 4, 10, 12, 38, 40, 2 * p, 4 * p * p, 10 ** 29, FARTHEST) if n % (p - 1) != 0]


class CutSum(Case):
    def test_the_plain_sum(self):
        for p in (5, 7, 11, 13, 37, 199):
            for n in (1, 2, 3, 4, 5, 9, 16, p - 1, p, p + 1):
                for a in sorted({1, 2, 3, 4, p // 2, p - 2, p - 1}):
                    due = sum(j ** (n - 1) * (j * a // p) for j in range(1, p)) % p
                    self.tells(due, cut_sum, n, p, a)

    def test_each_prime_and_number(self):
        for p in FAR_PRIMES:
            for a in range(1, p, 1 + p // 25):
                self.tells(sum(pow(j, 5, p) * (j * a // p) for j in range(1, p)) % p, cut_sum, 6, p, a)

    def test_far(self):
        for p in (5, 7, 31, 101, 199):
            for n in (THIRTY, FARTHEST, 10 ** 29, 10 ** 29 + 1, p * 10 ** 20, THIRTY // (p - 1) * (p - 1) + 1):
                for a in (1, 2, 3, p - 1):
                    due = sum(pow(j, n - 1, p) * (j * a // p) for j in range(1, p)) % p
                    self.tells(due, cut_sum, n, p, a)

    def test_written_out(self):
        for p in FAR_PRIMES:
            self.tells(0, cut_sum, 1, p, 1)
            self.tells(0, cut_sum, THIRTY, p, 1)
            # Of 2 the floors are 1 for the greater half of the numbers.
            self.tells((p - 1) // 2 % p, cut_sum, 1, p, 2)
        self.tells(2, cut_sum, 2, 5, 2)
        self.tells(1, cut_sum, 2, 7, 2)


class LetsRest(Case):
    def refused(self, word, n, p, rest, thing):
        self.refuses(NoPaper, {"word": word, "place": 0}, lets_rest, n, p, rest, thing)

    def test_the_paper_and_the_far_rest(self):
        for p in FAR_PRIMES:
            for n in some_places(p):
                rest = far_rest(n, p)
                paper = rest_paper(n, p)
                for many in (0, 1, -1, n % 7, -10 ** 20):
                    self.tells(True, lets_rest, n, p, rest + many * p, paper)

    def test_each_number(self):
        for p in (5, 7, 11, 13, 37, 41):
            for n in some_places(p):
                rest = far_due(n, p)
                for a in range(2, p):
                    if pow(a, n, p) == 1:
                        self.refused("way", n, p, rest, a)
                    else:
                        self.tells(True, lets_rest, n, p, rest, a)
                        for wrong in range(p):
                            if wrong != rest:
                                self.refused("rest", n, p, wrong, a)

    def test_another_rest(self):
        for p in FAR_PRIMES:
            for n in some_places(p):
                rest, paper = far_due(n, p), rest_paper(n, p)
                for more in (1, -1, 10 ** 20 * p - 2):
                    self.refused("rest", n, p, rest + more, paper)
                if 2 * rest % p != 0:
                    self.refused("rest", n, p, -rest, paper)

    def test_no_such_number(self):
        for p, n in ((5, 2), (7, 10), (13, 4), (199, FARTHEST)):
            rest = far_due(n, p)
            things = ODD_THINGS + ("2", "3", (2,), (2, 1), (3, 1), [2], [3], {2: 2}, deep(39), ((2, 1),))
            numbers = (0, 1, p, p + 1, p + 2, 2 * p, 2 * p + 3, -1, -2, -p, 2 - p, THIRTY, 10 ** 3999, -10 ** 3999)
            for thing in things + numbers:
                self.refused("shape", n, p, rest, thing)
                self.refused("shape", n, p, rest + 1, thing)

    def test_the_last_number(self):
        # Its power by an even place always leaves 1.
        for p in FAR_PRIMES:
            for n in some_places(p):
                self.refused("way", n, p, far_due(n, p), p - 1)

    def test_way_goes_ahead_of_rest(self):
        for p in (5, 7, 13, 37, 199):
            for n in some_places(p):
                for wrong in (0, 1, 2, far_due(n, p) + 1, -THIRTY):
                    self.refused("way", n, p, wrong, p - 1)

    def test_written_out(self):
        self.tells(True, lets_rest, 2, 5, 3, 2)
        self.tells(True, lets_rest, 2, 5, 3, 3)
        self.tells(True, lets_rest, 2, 5, -2, 2)
        self.refused("way", 2, 5, 3, 4)
        self.refused("rest", 2, 5, 4, 2)
        self.tells(True, lets_rest, 32 + 36 * 10 ** 28, 37, 0, 2)


if __name__ == "__main__":
    unittest.main()
