"""[4], [20]: the judge of the row's POLYs."""

import unittest
from fractions import Fraction

from powerrests.errors import NoPaper
from powerrests.polyjudge import lets_row_poly
from powerrests.rowpolys import row_poly
from tests.helping import THIRTY, Case, Odd, no_polys, number_of, poly, summed_by_hand, value, with_more

MORE = (1, -1, Fraction(1, 2), Fraction(-THIRTY, 7))


def stepped_more(thing, k, more):
    """The thing with more at x ** k of its step."""
    for j, pair in enumerate(summed_by_hand(poly(*[0] * k, more))):
        thing = with_more(thing, j, number_of(pair))
    return thing


def mean_set(thing, n):
    """The thing, with what its mean lacks at x ** 0."""
    mean = sum((number_of(pair) / (k + 1) for k, pair in enumerate(thing)), Fraction(0))
    return with_more(thing, 0, (1 if n == 0 else 0) - mean)


class LetsRowPoly(Case):
    def refused(self, word, place, n, thing):
        self.refuses(NoPaper, {"word": word, "place": place}, lets_row_poly, n, thing)

    def test_the_rows_poly(self):
        for n in range(21):
            self.tells(True, lets_row_poly, n, row_poly(n))

    def test_written_out(self):
        self.tells(True, lets_row_poly, 0, poly(1))
        self.tells(True, lets_row_poly, 1, poly(Fraction(-1, 2), 1))
        self.tells(True, lets_row_poly, 2, poly(Fraction(1, 6), -1, 1))
        self.refused("mean", 0, 2, poly(Fraction(1, 3), -1, 1))
        self.refused("step", 0, 2, poly(Fraction(1, 6), -2, 1))

    def test_no_poly(self):
        for n in (0, 1, 2, 20):
            for thing in no_polys(row_poly(n), 21):
                self.refused("shape", 0, n, thing)

    def test_twenty_two_and_more(self):
        for n in (0, 1, 20):
            for many in (22, 23, 24, 25):
                self.refused("shape", 0, n, summed_by_hand(poly(*[0] * (many - 2), 1)))
            self.refused("step", 0, n, ((1, 1),) * 21)

    def test_one_number_of_the_step_otherwise(self):
        for n in range(21):
            for k in range(20):
                for more in MORE[:3]:
                    thing = stepped_more(row_poly(n), k, more)
                    self.refused("step", k, n, thing)
                    self.refused("step", k, n, mean_set(thing, n))

    def test_the_least_of_several(self):
        for n in (0, 1, 2, 9, 20):
            for k, later in ((0, 1), (2, 19), (9, 10), (18, 19)):
                self.refused("step", k, n, stepped_more(stepped_more(row_poly(n), k, MORE[3]), later, 5))

    def test_of_another_place(self):
        for n in range(21):
            for other in range(21):
                if other != n:
                    # The lower one's step alone has a number at the lower place; nought has none.
                    places = [each - 1 for each in (n, other) if each > 0]
                    self.refused("step", min(places), n, row_poly(other))

    def test_of_nought(self):
        self.refused("mean", 0, 0, ())
        self.refused("mean", 0, 0, poly(2))
        self.refused("mean", 0, 0, poly(-1))
        self.refused("step", 0, 0, poly(1, 1))
        self.refused("step", 0, 0, poly(Fraction(1, 2), 1))
        self.refused("step", 0, 0, poly(0, 0, 3))
        self.refused("step", 1, 0, mean_set(poly(0, -1, 1), 0))
        for k in range(20):
            self.refused("step", k, 0, summed_by_hand(poly(*[0] * k, 1)))

    def test_nothing(self):
        for n in range(1, 21):
            self.refused("step", n - 1, n, ())

    def test_mean_otherwise(self):
        for n in range(21):
            for more in MORE:
                self.refused("mean", 0, n, with_more(row_poly(n), 0, more))
            self.refused("mean", 0, n, with_more(row_poly(n), 0, Fraction(1, 10 ** 3999)))
        # Summed ones are right but for their mean.
        for n in range(1, 21):
            if value(row_poly(n), 0) != 0:
                self.refused("mean", 0, n, summed_by_hand(poly(*[0] * (n - 1), n)))

    def test_step_goes_ahead_of_mean(self):
        for n in range(21):
            for k in (0, 4, 19):
                right = mean_set(stepped_more(row_poly(n), k, 2), n)
                self.refused("step", k, n, with_more(right, 0, MORE[2]))

    def test_shape_goes_ahead(self):
        odd = Odd(9)
        for n in (0, 7, 20):
            self.refused("shape", 0, n, odd.poly(22, 12))
            self.refused("shape", 0, n, odd.poly(20, 12) + ((0, 1),))
            self.refused("shape", 0, n, with_more(row_poly(n), 0, 1) + ((2, 4),))


if __name__ == "__main__":
    unittest.main()
