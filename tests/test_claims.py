"""[37]: what a CLAIM is."""

import unittest
from fractions import Fraction

from powerrests.claims import is_claim
from tests.helping import (
    GREAT, NO_SHARES, ODD_THINGS, PRIMES, THIRTY, Case, Odd, deep, poly, right_claims, with_lists, wrong_answers)

NO_WHOLES = (None, True, False, "", "0", "1", "2", "5", [], [0], [5], {}, {5: 5}, (), (1,), (5,), (1, 1))
NO_PLACES = NO_WHOLES + (-1, -2, -THIRTY, 41, 42, 100, THIRTY, 10 ** 3999)
NO_TUPLES = (None, True, False, 0, 1, 2, THIRTY, "", "2", "(2, 3)", [], [2, 3], {}, {2: 3})
# One of each word, as short as it can be.
SHORT = (("number", 0, (1, 1)), ("sum", (), 0, (0, 1)), ("signed", (), 0, (0, 1)), ("beneath", 2, (2, 3)),
         ("rest", 2, 5, 3), ("turns", 3, 2))
LONG = 10 ** 3999


class IsClaim(Case):
    def is_one(self, *parts):
        self.tells(True, is_claim, parts)

    def is_none(self, *parts):
        self.tells(False, is_claim, parts)

    def test_right_ones(self):
        for claim in right_claims():
            self.is_one(*claim)
            # What it claims need not be so.
            for answer in wrong_answers(claim):
                self.is_one(*claim[:-1], answer)

    def test_places(self):
        for word, answer in (("number", (1, 2)), ("beneath", (7,)), ("turns", -3)):
            for n in range(41):
                self.is_one(word, n, answer)
            for n in NO_PLACES:
                self.is_none(word, n, answer)

    def test_shares(self):
        for pair in ((0, 1), (1, 1), (-1, 2), (THIRTY, THIRTY - 1), (10 ** 600, 7), (LONG, 1), (-1, LONG), (LONG, 7)):
            self.is_one("number", 7, pair)
            self.is_one("sum", poly(1, 2), 7, pair)
            self.is_one("signed", poly(1, 2), 7, pair)
        for wrong in NO_SHARES + ODD_THINGS:
            self.is_none("number", 7, wrong)
            self.is_none("sum", poly(1, 2), 7, wrong)
            self.is_none("signed", poly(1, 2), 7, wrong)

    def test_many(self):
        for word in ("sum", "signed"):
            for many in (0, 1, 2, 41, THIRTY, GREAT - 1, GREAT):
                self.is_one(word, poly(1, 2), many, (1, 2))
            for many in NO_WHOLES + (-1, -2, -GREAT, GREAT + 1, GREAT + 2, 10 * GREAT, LONG, (GREAT, 1), (0, 1)):
                self.is_none(word, poly(1, 2), many, (1, 2))

    def test_polys(self):
        odd = Odd(37)
        long = ((LONG, 1), (1, LONG), (-LONG, 7))
        for word in ("sum", "signed"):
            for one in [(), poly(1), poly(0, 0, Fraction(-1, 2)), ((LONG, 1),), long] + [
                    odd.poly(many, figures) for many in (1, 12, 13) for figures in (1, 12, 30, 60)]:
                self.is_one(word, one, 5, (1, 2))
            for many in (14, 15, 21, 24, 2000):
                self.is_none(word, ((1, 2),) * many, 5, (1, 2))
                self.is_none(word, poly(*[0] * (many - 1), 1), 5, (1, 2))
            for wrong in [thing for thing in ODD_THINGS if thing != ()]:
                self.is_none(word, wrong, 5, (1, 2))
                self.is_none(word, (wrong,), 5, (1, 2))
            for wrong in NO_SHARES:
                for thing in ((wrong,), ((1, 2), wrong), (wrong, (1, 2)), ((1, 2),) * 12 + (wrong,)):
                    self.is_none(word, thing, 5, (1, 2))
            for thing in (poly(0), poly(1, 0), poly(*[1] * 12, 0), (1, 1), (1, 2), 0, 1, THIRTY, "1 2"):
                self.is_none(word, thing, 5, (1, 2))

    def test_primes(self):
        for primes in ((), (2,), (2, 3, 5), (3, 2), (2, 2), (4, 6), (0,), (-2, -3), (THIRTY,), (LONG,), (7,) * 1000):
            for n in (0, 1, 2, 12, 40):
                self.is_one("beneath", n, primes)
        for wrong in NO_TUPLES:
            self.is_none("beneath", 2, wrong)
        for wrong in NO_WHOLES:
            for primes in ((wrong,), (2, wrong), (wrong, 3), (2, 3, wrong, 5)):
                self.is_none("beneath", 2, primes)

    def test_counts(self):
        for count in (0, 1, -1, 2, 16, THIRTY, -THIRTY, 10 ** 60, LONG, -LONG):
            self.is_one("turns", 5, count)
        for wrong in NO_WHOLES + ((2, 1), [16], "16"):
            self.is_none("turns", 5, wrong)


class IsRestClaim(Case):
    def is_one(self, *parts):
        self.tells(True, is_claim, ("rest",) + parts)

    def is_none(self, *parts):
        self.tells(False, is_claim, ("rest",) + parts)

    def test_far_places(self):
        for n in (2, 6, 10, 42, 198, 10 ** 29 + 2, GREAT - 2, GREAT - 6):
            self.is_one(n, 5, 1)
        for n in NO_WHOLES + (1, 3, 5, 7, 41, 199, 0, -2, -6, -GREAT + 2, GREAT - 1, GREAT, GREAT + 2, GREAT + 6,
                              10 * GREAT + 2, LONG + 2):
            self.is_none(n, 5, 1)
        self.is_none(GREAT - 3, 7, 1)
        self.is_none(GREAT, 7, 1)
        self.is_one(GREAT - 4, 11, 1)

    def test_primes(self):
        for p in range(-10, 230):
            self.tells(p in PRIMES and p >= 5, is_claim, ("rest", 2, p, 1))
        for p in NO_WHOLES + (211, 997, 999983, 7 * 10 ** 20, THIRTY, 10 ** 30 + 57, LONG, -5, -199):
            self.is_none(2, p, 1)

    def test_places_without_a_far_rest(self):
        for p in [p for p in PRIMES if p >= 5]:
            for n in (p - 1, 2 * (p - 1), p * (p - 1), (p - 1) * 10 ** 25):
                self.is_none(n, p, 1)
                self.is_one(n + 2, p, 1)
                self.is_one(n + (p - 3), p, 1)

    def test_rests(self):
        for p in [p for p in PRIMES if p >= 5]:
            for rest in (0, 1, p - 2, p - 1):
                self.is_one(2, p, rest)
            for rest in NO_WHOLES + (-1, -p, p, p + 1, 2 * p, THIRTY, LONG):
                self.is_none(2, p, rest)


class IsNoClaim(Case):
    def is_none(self, thing):
        self.tells(False, is_claim, thing)

    def test_a_part_more_or_fewer(self):
        for claim in SHORT:
            self.tells(True, is_claim, claim)
            for k in range(len(claim)):
                self.is_none(claim[:k] + claim[k + 1:])
                self.is_none(claim[:k + 1] + claim[k:])
            self.is_none(claim[:1])
            for more in (None, 0, 1, (), (1, 1), claim[0], claim):
                self.is_none(claim + (more,))
                self.is_none((more,) + claim)

    def test_words(self):
        for claim in SHORT:
            for word in ("", "x", "row", "num", "numbers", "Number", "SUM", "sum ", " sum", "signed sum", "turn", "so",
                         "rests", None, True, 0, 1, (), [], {}, ("number",), ["sum"], {"sum": 1}, (claim[0],)):
                self.is_none((word,) + claim[1:])

    def test_the_word_of_another_form(self):
        # A SHARE is a tuple of whole numbers, too, and that of 2 and 3 a SHARE.
        alike = ({"sum", "signed"}, {"number", "beneath"})
        for claim in SHORT:
            for other in SHORT:
                due = claim == other or {claim[0], other[0]} in alike
                self.tells(due, is_claim, (other[0],) + claim[1:])

    def test_lists_in_the_place_of_tuples(self):
        claims = SHORT + (("sum", poly(1, Fraction(1, 2), 3), 7, (1, 2)), ("signed", poly(1, 2), 7, (5, 1)))
        for claim in claims:
            for thing in with_lists(claim):
                self.is_none(thing)

    def test_truths_in_the_place_of_numbers(self):
        for thing in (("number", False, (1, 1)), ("number", True, (-1, 2)), ("number", 0, (True, 1)),
                      ("number", 0, (1, True)), ("sum", ((True, 1),), 0, (0, 1)), ("sum", ((1, True),), 0, (0, 1)),
                      ("sum", (), False, (0, 1)), ("sum", (), 0, (False, 1)), ("sum", (), 0, (0, True)),
                      ("signed", (), True, (0, 1)), ("signed", (), 0, (False, True)), ("beneath", True, (2,)),
                      ("beneath", 2, (2, True)), ("rest", 2, 5, True), ("rest", 2, 5, False), ("turns", True, 1),
                      ("turns", 1, True), ("turns", 3, False)):
            self.is_none(thing)

    def test_other_things(self):
        for thing in ODD_THINGS + (0, 1, THIRTY, LONG, (), "number", ("number",), "('turns', 3, 2)", deep(39),
                                   {"turns": (3, 2)}, {0: "turns", 1: 3, 2: 2}, (SHORT[0],), SHORT, list(SHORT)):
            self.is_none(thing)


if __name__ == "__main__":
    unittest.main()
