"""[4], [38]: the judge of CLAIMs."""

import unittest
from fractions import Fraction

from powerrests.errors import NoPaper
from powerrests.judge import lets_claim
from powerrests.row import step_of
from powerrests.tables import row_by_steps
from tests.helping import (
    NO_SHARES, ODD_THINGS, THIRTY, Case, Odd, deep, due_at, due_beneath, due_whole, no_polys, paper_due, poly, right,
    right_claims, signed_by_hand, summed_by_hand, table_by_hand, with_lists, with_more, wrong_answers)

LONG = (10 ** 600 - 1, 10 ** 600 - 2)
CLAIMS = right_claims()


def claims_of(*words):
    return [claim for claim in CLAIMS if claim[0] in words]


def exchanged(thing, at, other):
    """The tuple with another thing at a place."""
    return thing[:at] + (other,) + thing[at + 1:]


def row(n):
    return tuple(due_at(k) for k in range(n + 1))


class Judge(Case):
    def refused(self, word, place, claim, thing):
        self.refuses(NoPaper, {"word": word, "place": place}, lets_claim, claim, thing)


class AllWords(Judge):
    def test_right_papers(self):
        for claim in CLAIMS:
            self.tells(True, lets_claim, claim, paper_due(claim))

    def test_no_paper_for_two_answers(self):
        for claim in CLAIMS:
            word = {"beneath": None, "rest": "rest"}.get(claim[0], "value")
            for answer in wrong_answers(claim):
                other = claim[:-1] + (answer,)
                with self.assertRaises(NoPaper) as caught:
                    lets_claim(other, paper_due(claim))
                if word:
                    self.assertEqual((caught.exception.word, caught.exception.place), (word, 0))

    def test_other_things(self):
        shapeless = ODD_THINGS + (0, 1, -1, THIRTY, 10 ** 3999, "so", [paper_due(CLAIMS[0])], deep(39))
        # A POLY, a row that is void, and two SHAREs where a row should stand: of these something else is wrong.
        shaped = (("sum", ()), ("signed", ()), ("turns", ((),)), ("beneath", (((1, 2), (1, 3)), 1)))
        for claim in (right("number", 3), right("sum", poly(1, 2), 3), right("signed", poly(1, 2), 3),
                      right("beneath", 2), right("rest", 2, 7), right("turns", 4)):
            for thing in shapeless + tuple(with_lists(paper_due(claim))):
                if (claim[0], thing) not in shaped:
                    self.refused("shape", 0, claim, thing)

    def test_papers_of_other_words(self):
        few = (right("number", 6), right("sum", poly(1, 2), 3), right("beneath", 12), right("rest", 4, 7),
               right("turns", 5), right("signed", poly(1, Fraction(1, 2), 3), 3))
        for claim in few:
            for other in few:
                if claim != other:
                    with self.assertRaises(NoPaper):
                        lets_claim(claim, paper_due(other))


class Number(Judge):
    def test_neighbouring_places(self):
        for n in range(41):
            claim = right("number", n)
            for other in {0, n - 1, n + 1, 40} & set(range(41)) - {n}:
                self.refused("long", 0, claim, row(other))

    def test_long_goes_ahead_of_value(self):
        for n in (0, 5, 20, 40):
            for answer in (LONG, (7, 2), (-due_at(n)[0], due_at(n)[1])):
                for other in {0, n - 1, n + 1, 40} & set(range(41)) - {n}:
                    self.refused("long", 0, ("number", n, answer), row(other))
        # A number of another place, though right there, is a wrong answer here.
        self.refused("value", 0, ("number", 4, due_at(2)), row(4))
        self.refused("long", 0, ("number", 4, due_at(2)), row(2))
        self.refused("long", 0, ("number", 3, (0, 1)), row(5))

    def test_one_number_otherwise(self):
        for n in (0, 1, 7, 40):
            for k in range(n + 1):
                for wrong in ((2, 1), (-1, 7), LONG):
                    paper = exchanged(row(n), k, wrong)
                    self.refused("step", k, right("number", n), paper)
                    self.refused("step", k, ("number", n, wrong), paper)
                    self.refused("step", k, ("number", (n + 3) % 41, (1, 1)), paper)

    def test_right_steps_of_a_wrong_one(self):
        numbers = ((2, 1),)
        while len(numbers) < 8:
            numbers += (step_of(numbers),)
        self.refused("step", 0, ("number", 7, numbers[7]), numbers)
        self.refused("step", 0, ("number", 2, numbers[2]), numbers[:3])

    def test_shape_goes_first(self):
        for claim in (right("number", 3), ("number", 3, LONG), ("number", 40, (5, 1))):
            for wrong in NO_SHARES:
                self.refused("shape", 0, claim, row(2) + (wrong,))
                self.refused("shape", 0, claim, ((3, 1), wrong))
            for thing in ((), row(40) + ((0, 1),), list(row(3)), ((1, 1),) * 42):
                self.refused("shape", 0, claim, thing)


class Turns(Judge):
    def test_neighbouring_places(self):
        for n in range(41):
            for other in {0, n - 1, n + 1, 40} & set(range(41)) - {n}:
                self.refused("long", 0, right("turns", n), table_by_hand(other))
                self.refused("long", 0, ("turns", n, right("turns", other)[2]), table_by_hand(other))

    def test_the_answer(self):
        for n in range(41):
            for answer in (0, -1, 10 ** 59, -right("turns", n)[2]):
                self.refused("value", 0, ("turns", n, answer), table_by_hand(n))
        # Other numbers of the table are wrong answers.
        self.refused("value", 0, ("turns", 5, 14), table_by_hand(5))
        self.refused("value", 0, ("turns", 5, 5), table_by_hand(5))

    def test_a_row_otherwise(self):
        for n in (0, 1, 6, 40):
            table = table_by_hand(n)
            for m in range(n + 1):
                for wrong in ((), (7,), table[m][:-1], table[m] + (1,), table[m][:-1] + (table[m][-1] + 1,)):
                    if wrong != table[m]:
                        self.refused("row", m, right("turns", n), exchanged(table, m, wrong))
                        self.refused("row", m, ("turns", (n + 3) % 41, 10 ** 59), exchanged(table, m, wrong))

    def test_right_rows_of_a_wrong_one(self):
        table = ((2,),)
        while len(table) < 6:
            table += (row_by_steps(table[-1]),)
        self.refused("row", 0, ("turns", 5, table[5][5]), table)

    def test_shape_goes_first(self):
        for claim in (right("turns", 3), ("turns", 3, -1), ("turns", 40, 0)):
            for thing in ((), table_by_hand(40) + ((0,) * 42,), list(table_by_hand(3)), ((2,), (True,)), ((2,), None)):
                self.refused("shape", 0, claim, thing)


class Sums(Judge):
    def test_the_summed_one(self):
        odd = Odd(38)
        for one in [poly(5), poly(0, 1), poly(1, Fraction(-1, 2), 0, 3), odd.poly(13, 12)]:
            paper = summed_by_hand(one)
            for many in (0, 1, 9, 10 ** 30):
                claim = right("sum", one, many)
                for answer in (claim[3], LONG, (-5, 7)):
                    claim = claim[:3] + (answer,)
                    for k in range(1, len(paper) + 1):
                        # What is more at x ** k brings k of it to x ** (k - 1) and some of it to all below.
                        self.refused("step", 0, claim, with_more(paper, k, Fraction(1, 3)))
                    self.refused("nought", 0, claim, with_more(paper, 0, 1))
                    self.refused("nought", 0, claim, with_more(with_more(paper, 2, 1), 0, -1))

    def test_the_signed_one(self):
        odd = Odd(39)
        for one in [poly(5), poly(0, 1), poly(1, Fraction(-1, 2), 0, 3), odd.poly(13, 12)]:
            paper = signed_by_hand(one)
            for many in (0, 1, 9, 10 ** 30):
                claim = right("signed", one, many)
                for answer in (claim[3], LONG, (-5, 7)):
                    for k in range(len(paper) + 1):
                        self.refused("pair", 0, claim[:3] + (answer,), with_more(paper, k, Fraction(1, 3)))

    def test_a_later_place(self):
        # x ** 2 - x has the step 2 x; 2 x ** 2 - 2 x has 4 x: alike at x ** 0, not at x ** 1.
        self.refused("step", 1, right("sum", poly(0, 2), 5), poly(0, -2, 2))
        self.refused("step", 1, ("sum", poly(0, 2), 5, (1, 9)), poly(0, -2, 2))
        # The pair of 2 x - 1 is 4 x, that of x - 1/2 is 2 x.
        self.refused("pair", 1, right("signed", poly(0, 2), 5), poly(-1, 2))
        self.refused("pair", 1, ("signed", poly(0, 2), 5, (1, 9)), poly(-1, 2))

    def test_papers_of_each_other(self):
        for one in (poly(2), poly(0, 1), poly(5, 2, 3)):
            for many in (0, 1, 5):
                self.refused("nought", 0, right("sum", one, many), signed_by_hand(one))
                # At x ** 0 the pair of a summed one is right: its values at 0 and 1 together are the POLY's at 0.
                self.refused("pair", 1, right("signed", one, many), summed_by_hand(one))
        # The paper of a neighbouring POLY, of one more, and of none.
        self.refused("step", 0, right("sum", poly(1, 2), 5), summed_by_hand(poly(2, 2)))
        self.refused("step", 1, right("sum", poly(1, 2), 5), summed_by_hand(poly(1, 3)))
        self.refused("step", 2, right("sum", poly(1, 2), 5), summed_by_hand(poly(1, 2, 1)))
        self.refused("pair", 2, right("signed", poly(1, 2), 5), signed_by_hand(poly(1, 2, 1)))
        self.refused("step", 0, right("sum", poly(1, 2), 5), ())
        self.refused("pair", 0, right("signed", poly(1, 2), 5), ())

    def test_the_answer(self):
        for claim in claims_of("sum", "signed"):
            paper = paper_due(claim)
            for answer in wrong_answers(claim):
                self.refused("value", 0, claim[:3] + (answer,), paper)
        # That of a neighbouring bound is wrong here; the sum of none is nought, not the POLY's value at 0.
        for many in (0, 1, 6, 10 ** 30 - 1):
            for word in ("sum", "signed"):
                claim = right(word, poly(3, 1, 2), many)
                self.refused("value", 0, claim[:2] + (many + 1, claim[3]), paper_due(claim))
        self.tells(True, lets_claim, ("signed", poly(3, 1), 0, (0, 1)), signed_by_hand(poly(3, 1)))

    def test_shape_goes_first(self):
        for word, by_hand in (("sum", summed_by_hand), ("signed", signed_by_hand)):
            one = poly(1, 2, Fraction(1, 2))
            for thing in no_polys(by_hand(one), 24):
                self.refused("shape", 0, right(word, one, 5), thing)
                self.refused("shape", 0, (word, one, 5, LONG), thing)


class Beneath(Judge):
    def test_no_tuple_of_two(self):
        for n in (0, 1, 2, 12, 40):
            numbers, whole = paper_due(right("beneath", n))
            for claim in (right("beneath", n), ("beneath", n, (4,))):
                for thing in ((), (numbers,), (numbers, whole, 0), (numbers, whole, claim[2]), [numbers, whole],
                              {0: numbers, 1: whole}, numbers[:1] * 3, None, 0, "ab", (whole,)):
                    self.refused("shape", 0, claim, thing)

    def test_the_row_otherwise(self):
        for n in (0, 1, 2, 7, 40):
            numbers, whole = paper_due(right("beneath", n))
            for claim in (right("beneath", n), ("beneath", n, (4,)), ("beneath", (n + 1) % 41, ())):
                for second in (whole, whole + 1, None, "x"):
                    for k in range(n + 1):
                        self.refused("step", k, claim, (exchanged(numbers, k, (9, 7)), second))
                    for wrong in ((), list(numbers), None, 0, numbers + ((1, 0),), ((2, 1), [1, 1]), ((1, 1),) * 42):
                        self.refused("shape", 0, claim, (wrong, second))

    def test_neighbouring_places(self):
        for n in range(41):
            for other in {0, n - 1, n + 1, 40} & set(range(41)) - {n}:
                for primes in (due_beneath(n), due_beneath(other), (4,)):
                    for second in (int(due_whole(other)), int(due_whole(n)), None):
                        self.refused("long", 0, ("beneath", n, primes), (row(other), second))

    def test_the_whole_is_no_whole_number(self):
        for n in (0, 1, 2, 12):
            for primes in (due_beneath(n), (4,), ()):
                for second in (None, True, False, "1", (), (1,), (1, 1), [1], {}):
                    self.refused("shape", 0, ("beneath", n, primes), (row(n), second))

    def test_the_whole_otherwise(self):
        for n in range(41):
            claim = right("beneath", n)
            for more in (1, -1, THIRTY, 10 ** 3999):
                self.refused("sum", 0, claim, (row(n), int(due_whole(n)) + more))

    def test_the_primes(self):
        for n in range(41):
            due = due_beneath(n)
            for whole in (int(due_whole(n)), 10 ** 20):
                paper = (row(n), whole)
                for k in range(len(due)):
                    # One of them otherwise, one twice, one left out.
                    self.refused("prime", k, ("beneath", n, exchanged(due, k, 4)), paper)
                    self.refused("prime", k + 1, ("beneath", n, due[:k + 1] + due[k:]), paper)
                    self.refused("many", 0, ("beneath", n, due[:k] + due[k + 1:]), paper)
                for wrong in (-2, 0, 1, 4, 9, 43, THIRTY):
                    self.refused("prime", len(due), ("beneath", n, due + (wrong,)), paper)
                    self.refused("prime", 0, ("beneath", n, (wrong,) + due), paper)


class Rest(Judge):
    def test_each_number(self):
        for claim in claims_of("rest"):
            word, n, p, rest = claim
            for other in {0, 1, rest, (rest + 1) % p, p - 1}:
                for a in {2, 3, p // 2, p - 2, p - 1}:
                    if pow(a, n, p) == 1:
                        self.refused("way", 0, (word, n, p, other), a)
                    elif other == rest:
                        self.tells(True, lets_claim, claim, a)
                    else:
                        self.refused("rest", 0, (word, n, p, other), a)

    def test_shape(self):
        for claim in claims_of("rest"):
            for thing in ODD_THINGS + (1, 0, -1, -2, claim[2], claim[2] + 2, THIRTY, "2", (2,), [2], (2, 1)):
                self.refused("shape", 0, claim, thing)
                self.refused("shape", 0, claim[:3] + ((claim[3] + 1) % claim[2],), thing)


if __name__ == "__main__":
    unittest.main()
