"""[4], [23]: the judge of signed POLYs."""

import unittest
from fractions import Fraction

from powerrests.errors import NoPaper
from powerrests.signjudge import lets_signed
from powerrests.signs import signed, turn_poly
from tests.helping import THIRTY, Case, Odd, no_polys, poly, signed_by_hand, some_polys, with_more

MORE = (1, -1, Fraction(1, 2), Fraction(-THIRTY, 7))


class LetsSigned(Case):
    def refused(self, word, place, one, thing):
        self.refuses(NoPaper, {"word": word, "place": place}, lets_signed, one, thing)

    def test_the_signed_one(self):
        for one in some_polys():
            self.tells(True, lets_signed, one, signed(one))
            self.tells(True, lets_signed, one, signed_by_hand(one))

    def test_turn_polys(self):
        for n in range(21):
            self.tells(True, lets_signed, poly(*[0] * n, 2), turn_poly(n))
            self.refused("pair", n, poly(*[0] * n, 1), turn_poly(n))

    def test_written_out(self):
        self.tells(True, lets_signed, (), ())
        self.tells(True, lets_signed, poly(1), poly(Fraction(1, 2)))
        self.tells(True, lets_signed, poly(0, 1), poly(Fraction(-1, 4), Fraction(1, 2)))
        self.refused("pair", 0, poly(0, 1), poly(Fraction(1, 4), Fraction(1, 2)))
        self.refused("pair", 1, poly(0, 1), poly(Fraction(-1, 2), 1))

    def test_no_poly(self):
        for one in ((), poly(1), poly(0, 1), Odd(5).poly(13, 12)):
            for thing in no_polys(signed(one), 24):
                self.refused("shape", 0, one, thing)

    def test_twenty_five_and_more(self):
        for many in (25, 26, 30):
            self.refused("shape", 0, poly(0, 1), signed_by_hand(poly(*[0] * (many - 1), 1)))
            self.refused("shape", 0, (), ((1, 1),) * many)

    def test_shape_goes_ahead(self):
        self.refused("shape", 0, poly(0, 1), ((3, 1), (0, 1)))
        self.refused("shape", 0, poly(0, 1), ((3, 1), (5, 1), (True, 1)))
        self.refused("shape", 0, poly(0, 1), ((3, 1),) * 25)

    def test_one_number_of_the_pair_otherwise(self):
        for one in some_polys():
            for k in range(24):
                self.refused("pair", k, one, signed_by_hand(with_more(one, k, MORE[len(one) % 2])))

    def test_the_least_of_several(self):
        for one in some_polys():
            for k, later in ((0, 1), (0, 23), (3, 4), (11, 19), (20, 21), (22, 23)):
                wrong = with_more(with_more(one, later, MORE[3]), k, MORE[2])
                self.refused("pair", k, one, signed_by_hand(wrong))

    def test_one_number_of_the_thing_otherwise(self):
        # Each number has a part in the pair's number at 0.
        for one in some_polys():
            for k in range(24):
                self.refused("pair", 0, one, with_more(signed(one), k, Fraction(1, 9)))

    def test_shorter_and_longer(self):
        one = poly(2, 0, Fraction(5, 3), 0, -7)
        self.refused("pair", 4, one, signed_by_hand(one[:3]))
        self.refused("pair", 2, one, signed_by_hand(one[:1]))
        self.refused("pair", 5, one, signed_by_hand(one + poly(1)))
        self.refused("pair", 9, one, signed_by_hand(one + poly(0, 0, 0, 0, 1)))
        self.refused("pair", 0, one, signed(one)[:4])

    def test_nothing(self):
        self.refused("pair", 0, poly(4), ())
        for n in range(21):
            self.refused("pair", n, poly(*[0] * n, 1), ())
            self.refused("pair", n, (), signed(poly(*[0] * n, 1)))
        self.refused("pair", 3, poly(0, 0, 0, 1, 0, 2), ())

    def test_twenty_four_are_looked_at(self):
        for one in some_polys():
            thing = signed_by_hand(with_more(one, 23, 3))
            self.assertEqual(len(thing), 24)
            self.refused("pair", 23, one, thing)

    def test_great_numbers(self):
        great = 10 ** 3999
        self.refused("pair", 0, poly(1), ((great, 7),))
        self.refused("pair", 0, poly(1), ((7, great), (1, 1)))
        self.refused("pair", 1, poly(0, 1), signed_by_hand(poly(0, great)))


if __name__ == "__main__":
    unittest.main()
