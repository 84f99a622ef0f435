"""[4], [27]: the judge of what stands beneath."""

import unittest
from fractions import Fraction

from powerrests.beneath import beneath_paper, primes_beneath
from powerrests.beneathjudge import lets_beneath
from powerrests.errors import NoPaper
from powerrests.row import number_at
from tests.helping import ODD_THINGS, THIRTY, Case, deep, share

NO_WHOLES = (None, True, False, "", "1", "2", [], [2], {}, {2: 3}, (), (2,), (2, 1), (1, 1))
FAR = (60, 120, 420, 720, 840, 997, 998, 999, 1000)


def share_with(n, whole):
    """A SHARE that with 1 / p for each of the primes of n is this whole."""
    return share(whole - sum((Fraction(1, p) for p in primes_beneath(n)), Fraction(0)))


class LetsBeneath(Case):
    def refused(self, word, place, n, pair, thing):
        self.refuses(NoPaper, {"word": word, "place": place}, lets_beneath, n, pair, thing)

    def test_the_paper_of_each_place(self):
        for n in range(41):
            self.tells(True, lets_beneath, n, number_at(n), beneath_paper(n))

    def test_places_beyond(self):
        for n in FAR:
            for whole in (0, 1, -7, 10 ** 20):
                self.tells(True, lets_beneath, n, share_with(n, whole), (whole, primes_beneath(n)))
                self.refused("sum", 0, n, share_with(n, whole), (whole + 1, primes_beneath(n)))

    def test_sixty_figures(self):
        whole = 10 ** 55 + 3
        self.tells(True, lets_beneath, 12, share_with(12, whole), (whole, (2, 3, 5, 7, 13)))
        self.tells(True, lets_beneath, 3, (10 ** 60 - 1, 1), (10 ** 60 - 1, ()))
        self.refused("sum", 0, 3, (10 ** 60 - 1, 10 ** 60 - 2), (1, ()))

    def test_written_out(self):
        self.tells(True, lets_beneath, 0, (1, 1), (1, ()))
        self.tells(True, lets_beneath, 1, (-1, 2), (0, (2,)))
        self.tells(True, lets_beneath, 1, (1, 2), (1, (2,)))
        self.tells(True, lets_beneath, 2, (1, 6), (1, (2, 3)))
        self.tells(True, lets_beneath, 4, (-1, 30), (1, (2, 3, 5)))
        self.tells(True, lets_beneath, 16, (-3617, 510), (-6, (2, 3, 5, 17)))

    def test_no_tuple_of_two(self):
        # One of the odd things has the shape of a paper.
        things = [thing for thing in ODD_THINGS if thing != (1, (1, 2))]
        things += [0, 1, THIRTY, 10 ** 3999, (), (1,), (1, (2, 3), 1), [1, (2, 3)], {1: (2, 3)}, ((1, (2, 3)),)]
        things.append(deep(39))
        for thing in things + ["1 2 3", (1, 2, 3), ((2, 3), 1), (1, 2)]:
            for n, pair in ((0, (1, 1)), (2, (1, 6)), (3, (0, 1))):
                self.refused("shape", 0, n, pair, thing)

    def test_a_whole_that_is_none(self):
        for n in (0, 1, 2, 3, 12, 40):
            whole, primes = beneath_paper(n)
            for wrong in NO_WHOLES + ((whole, 1), str(whole)):
                self.refused("shape", 0, n, number_at(n), (wrong, primes))
        self.refused("shape", 0, 0, (1, 1), (True, ()))
        self.refused("shape", 0, 3, (0, 1), (False, ()))
        self.refused("shape", 0, 2, (1, 6), (True, (2, 3)))

    def test_primes_that_are_none(self):
        for n in (0, 1, 2, 12):
            whole, primes = beneath_paper(n)
            for wrong in (list(primes), None, True, 2, "", "2 3", {}, {2: 3}, dict.fromkeys(primes), (primes,)):
                self.refused("shape", 0, n, number_at(n), (whole, wrong))
            for wrong in NO_WHOLES:
                self.refused("shape", 0, n, number_at(n), (whole, primes + (wrong,)))
                for at in range(len(primes)):
                    self.refused("shape", 0, n, number_at(n), (whole, primes[:at] + (wrong,) + primes[at + 1:]))

    def test_none_of_the_primes(self):
        for n in (0, 1, 2, 3, 4, 12, 36, 39, 40):
            whole, primes = beneath_paper(n)
            for wrong in (-2, -1, 0, 1, 4, 6, 9, 43, 47, THIRTY, 10 ** 3999, -10 ** 3999):
                for at in range(len(primes) + 1):
                    self.refused("prime", at, n, number_at(n), (whole, primes[:at] + (wrong,) + primes[at:]))
                    self.refused("prime", at, n, number_at(n), (whole, primes[:at] + (wrong,)))

    def test_a_prime_twice(self):
        for n in (1, 2, 12, 36, 720):
            primes = primes_beneath(n)
            for at in range(len(primes)):
                wrong = primes[:at + 1] + primes[at:]
                self.refused("prime", at + 1, n, share_with(n, 3), (3, wrong))
        self.refused("prime", 2, 2, (1, 6), (1, (2, 3, 3)))
        self.refused("prime", 2, 2, (1, 6), (1, (2, 3, 2)))

    def test_not_rising(self):
        self.refused("prime", 1, 2, (1, 6), (1, (3, 2)))
        self.refused("prime", 1, 12, number_at(12), (1, (13, 7, 5, 3, 2)))
        self.refused("prime", 3, 12, number_at(12), (1, (2, 3, 7, 5, 13)))
        for n in (12, 36, 40, 720):
            primes = primes_beneath(n)
            for at in range(1, len(primes)):
                wrong = primes[:at - 1] + (primes[at], primes[at - 1]) + primes[at + 1:]
                self.refused("prime", at, n, share_with(n, 0), (0, wrong))

    def test_the_first_prime_of_several(self):
        self.refused("prime", 0, 12, number_at(12), (1, (4, 3, 2, 2)))
        self.refused("prime", 2, 12, number_at(12), (1, (2, 3, 11, 5, 5)))
        self.refused("prime", 1, 12, number_at(12), (1, (2, 2, 11)))

    def test_one_left_out(self):
        for n in (1, 2, 4, 12, 36, 40, 720, 998, 1000):
            primes = primes_beneath(n)
            for at in range(len(primes)):
                left = primes[:at] + primes[at + 1:]
                self.refused("many", 0, n, share_with(n, 2), (2, left))
                # The rest of the paper is right without that prime.
                fitting = share(5 - sum((Fraction(1, p) for p in left), Fraction(0)))
                self.refused("many", 0, n, fitting, (5, left))
            self.refused("many", 0, n, share_with(n, 2), (2, ()))

    def test_the_sum_otherwise(self):
        for n in range(41):
            whole, primes = beneath_paper(n)
            top, bottom = number_at(n)
            for wrong in (whole + 1, whole - 1, -whole - 2, THIRTY, 10 ** 3999):
                self.refused("sum", 0, n, (top, bottom), (wrong, primes))
            for other in ((top + bottom, bottom), (1, 7919), (-(10 ** 59), 10 ** 60 - 1)):
                self.refused("sum", 0, n, other, (whole, primes))
        self.refused("sum", 0, 0, (2, 1), (1, ()))
        self.refused("sum", 0, 2, (1, 3), (1, (2, 3)))

    def test_a_sum_that_is_not_whole(self):
        self.refused("sum", 0, 0, (1, 2), (1, ()))
        self.refused("sum", 0, 0, (3, 2), (3, ()))
        self.refused("sum", 0, 3, (1, 2), (0, ()))

    def test_the_first_that_is_due_goes(self):
        self.refused("shape", 0, 12, (1, 1), (True, (4, 2, 2)))
        self.refused("shape", 0, 12, (1, 1), (9, (4, 2, True)))
        self.refused("shape", 0, 12, (1, 1), (9, (2, 2, None)))
        self.refused("prime", 1, 12, (1, 1), (9, (2, 2, 3)))
        self.refused("prime", 2, 12, (1, 1), (9, (2, 3, 6)))
        self.refused("many", 0, 12, (1, 1), (9, (2, 3, 5, 7)))
        self.refused("sum", 0, 12, (1, 1), (9, (2, 3, 5, 7, 13)))


if __name__ == "__main__":
    unittest.main()
