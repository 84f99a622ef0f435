"""[4], [17]: the judge of summed POLYs."""

import unittest
from fractions import Fraction

from powerrests.errors import NoPaper
from powerrests.sumjudge import lets_summed
from powerrests.sums import summed
from tests.helping import THIRTY, Case, Odd, no_polys, poly, some_polys, summed_by_hand, with_more

MORE = (1, -1, Fraction(1, 2), Fraction(-THIRTY, 7))


class LetsSummed(Case):
    def refused(self, word, place, one, thing):
        self.refuses(NoPaper, {"word": word, "place": place}, lets_summed, one, thing)

    def test_the_summed_one(self):
        for one in some_polys():
            self.tells(True, lets_summed, one, summed(one))
            self.tells(True, lets_summed, one, summed_by_hand(one))

    def test_written_out(self):
        self.tells(True, lets_summed, (), ())
        self.tells(True, lets_summed, poly(-3), poly(0, -3))
        self.tells(True, lets_summed, poly(0, 1), poly(0, Fraction(-1, 2), Fraction(1, 2)))
        self.tells(True, lets_summed, poly(1, 2), poly(0, 0, 1))
        self.refused("step", 0, poly(0, 1), poly(0, Fraction(1, 2), Fraction(1, 2)))
        self.refused("step", 1, poly(0, 1), poly(0, -1, 1))

    def test_no_poly(self):
        for one in ((), poly(1), poly(0, 1), Odd(5).poly(13, 12)):
            for thing in no_polys(summed(one), 24):
                self.refused("shape", 0, one, thing)

    def test_twenty_five_and_more(self):
        for many in (24, 25, 30):
            self.refused("shape", 0, poly(0, 1), summed_by_hand(poly(*[0] * many, 1)))
            self.refused("shape", 0, (), ((1, 1),) * (many + 1))

    def test_shape_goes_ahead(self):
        self.refused("shape", 0, poly(0, 1), ((3, 1), (0, 1)))
        self.refused("shape", 0, poly(0, 1), ((3, 1), (5, 1), (True, 1)))
        self.refused("shape", 0, poly(0, 1), ((3, 1),) * 25)

    def test_value_at_nought(self):
        for one in some_polys():
            for more in MORE:
                self.refused("nought", 0, one, with_more(summed(one), 0, more))

    def test_nought_goes_ahead_of_step(self):
        for one in some_polys():
            for k in (0, 1, 5, 22):
                wrong = with_more(summed(one), k + 1, 7)
                self.refused("nought", 0, one, with_more(wrong, 0, -2))
        self.refused("nought", 0, poly(1), poly(1))
        self.refused("nought", 0, (), poly(Fraction(1, 3)))

    def test_one_number_of_the_step_otherwise(self):
        for one in some_polys():
            for k in range(23):
                self.refused("step", k, one, summed_by_hand(with_more(one, k, MORE[len(one) % 2])))

    def test_the_least_of_several(self):
        for one in some_polys():
            for k, later in ((0, 1), (0, 22), (3, 4), (11, 19), (20, 21), (21, 22)):
                wrong = with_more(with_more(one, later, MORE[3]), k, MORE[2])
                self.refused("step", k, one, summed_by_hand(wrong))

    def test_one_number_of_the_thing_otherwise(self):
        # Each number but the first has a part in the step's number at 0.
        for one in some_polys():
            for k in range(1, 24):
                self.refused("step", 0, one, with_more(summed(one), k, Fraction(1, 9)))

    def test_shorter_and_longer(self):
        one = poly(2, 0, Fraction(5, 3), 0, -7)
        self.refused("step", 4, one, summed_by_hand(one[:3]))
        self.refused("step", 2, one, summed_by_hand(one[:1]))
        self.refused("step", 5, one, summed_by_hand(one + poly(1)))
        self.refused("step", 9, one, summed_by_hand(one + poly(0, 0, 0, 0, 1)))
        self.refused("step", 0, one, summed(one)[:5])

    def test_nothing(self):
        self.refused("step", 0, poly(4), ())
        for n in range(21):
            self.refused("step", n, poly(*[0] * n, 1), ())
            self.refused("step", n, (), summed(poly(*[0] * n, 1)))
        self.refused("step", 3, poly(0, 0, 0, 1, 0, 2), ())

    def test_twenty_four_are_looked_at(self):
        for one in some_polys():
            thing = summed_by_hand(with_more(one, 22, 3))
            self.assertEqual(len(thing), 24)
            self.refused("step", 22, one, thing)
            self.refused("step", 0, one, ((0, 1),) * 23 + ((THIRTY, 2),))
            self.refused("nought", 0, one, ((1, 1),) * 24)

    def test_great_numbers(self):
        great = 10 ** 3999
        self.refused("step", 0, poly(1), ((0, 1), (great, 7)))
        self.refused("nought", 0, poly(1), ((7, great), (1, 1)))
        self.refused("step", 1, poly(0, 1), summed_by_hand(poly(0, great)))


if __name__ == "__main__":
    unittest.main()
