"""[4], [39]: CLAIMs judged."""

import copy
import unittest
from fractions import Fraction

from powerrests.claims import is_claim
from powerrests.errors import NoPaper
from powerrests.judge import lets_claim
from powerrests.judging import judged
from tests.helping import (
    GREAT, PRIMES, TURNS, Case, Odd, alike, due_at, due_beneath, paper_due, poly, right, right_claims, wrong_answers)

LONG = 10 ** 600 - 1


class Judged(Case):
    def is_paper(self, claim, paper):
        self.assertIs(lets_claim(claim, paper), True)
        # Of all but a rest there is one paper alone.
        if claim[0] != "rest":
            self.assertTrue(alike(paper, paper_due(claim)))

    def is_so(self, claim):
        before = copy.deepcopy(claim)
        for _ in range(2):
            told = judged(claim)
            self.assertEqual((type(told), len(told)), (tuple, 2))
            self.assertTrue(alike(told[0], "so"))
            self.is_paper(claim, told[1])
        self.assertTrue(alike(claim, before))

    def is_not(self, claim, due):
        """Asks of a CLAIM that isn't so, due being the one that is so in its place."""
        before = copy.deepcopy(claim)
        for _ in range(2):
            told = judged(claim)
            self.assertEqual((type(told), len(told)), (tuple, 3))
            self.assertTrue(alike(told[:2], ("not", due)), f"told {told!r:.300}, due {due!r:.300}")
            self.is_paper(due, told[2])
            with self.assertRaises(NoPaper):
                lets_claim(claim, told[2])
        self.assertTrue(alike(claim, before))
        self.assertTrue(is_claim(told[1]))

    def test_right_ones(self):
        for claim in right_claims():
            self.is_so(claim)

    def test_wrong_ones(self):
        for claim in right_claims():
            for answer in wrong_answers(claim)[:4]:
                self.is_not(claim[:-1] + (answer,), claim)

    def test_numbers(self):
        for n in range(41):
            for answer in ((0, 1), (1, 6), due_at((n + 2) % 41), (LONG, LONG - 1), (-LONG, 1)):
                claim = ("number", n, answer)
                if answer == due_at(n):
                    self.is_so(claim)
                else:
                    self.is_not(claim, ("number", n, due_at(n)))

    def test_sums(self):
        odd = Odd(40)
        for one in [(), poly(1), poly(0, 1), odd.poly(7, 12), odd.poly(13, 12), odd.poly(13, 12)]:
            for many in (0, 1, 2, 3, 10 ** 15, GREAT - 1, GREAT):
                for word in ("sum", "signed"):
                    claim = right(word, one, many)
                    self.is_so(claim)
                    for wrong in ((LONG, LONG - 1), (-1, LONG), (claim[3][0] + claim[3][1], claim[3][1])):
                        self.is_not((word, one, many, wrong), claim)

    def test_plain_adding(self):
        one = poly(Fraction(1, 3), -2, 0, Fraction(5, 7))
        total = signed = Fraction(0)
        for many in range(12):
            self.is_so(("sum", one, many, (total.numerator, total.denominator)))
            self.is_so(("signed", one, many, (signed.numerator, signed.denominator)))
            value = Fraction(1, 3) - 2 * many + Fraction(5, 7) * many ** 3
            total += value
            signed += (-1) ** many * value

    def test_beneath(self):
        for n in range(41):
            self.is_so(("beneath", n, due_beneath(n)))
            for wrong in ((1,), (2, 3, 4), due_beneath(n) + (2,), (LONG,), due_beneath(n)[::-1] + (-1,)):
                self.is_not(("beneath", n, wrong), ("beneath", n, due_beneath(n)))

    def test_rests(self):
        odd = Odd(41)
        for p in [p for p in PRIMES if p >= 5]:
            for n in (2, 40, p + 1, 2 * p, GREAT - 2, 2 * abs(odd.whole(29)) + 2):
                if n % (p - 1) != 0:
                    claim = right("rest", n, p)
                    self.is_so(claim)
                    for rest in {0, p - 1, (claim[3] + 1) % p, (claim[3] - 1) % p} - {claim[3]}:
                        self.is_not(("rest", n, p, rest), claim)

    def test_turns(self):
        for n in range(41):
            self.is_so(("turns", n, TURNS[n]))
            for wrong in (TURNS[n] + 1, -TURNS[n], 0, 10 ** 60 - 1, 1 - 10 ** 60, LONG):
                self.is_not(("turns", n, wrong), ("turns", n, TURNS[n]))

    def test_written_out(self):
        self.assertTrue(alike(judged(("number", 2, (1, 6))), ("so", ((1, 1), (-1, 2), (1, 6)))))
        self.assertTrue(alike(judged(("number", 1, (1, 2))), ("not", ("number", 1, (-1, 2)), ((1, 1), (-1, 2)))))
        self.assertTrue(alike(judged(("sum", poly(0, 1), 5, (10, 1))), ("so", ((0, 1), (-1, 2), (1, 2)))))
        self.assertTrue(alike(judged(("signed", poly(2), 2, (1, 1))), ("not", ("signed", poly(2), 2, (0, 1)), poly(1))))
        self.assertTrue(alike(judged(("beneath", 1, ())), ("not", ("beneath", 1, (2,)), (((1, 1), (-1, 2)), 0))))
        self.assertTrue(alike(judged(("turns", 2, 1)), ("so", ((1,), (0, 1), (0, 1, 1)))))
        self.assertTrue(alike(judged(("rest", 2, 5, 1))[:2], ("not", ("rest", 2, 5, 3))))


if __name__ == "__main__":
    unittest.main()
