"""[4], [15]: the judge of the row."""

import unittest

from powerrests.errors import NoRow
from powerrests.row import row_to, step_of
from powerrests.rowjudge import lets_row
from tests.helping import NO_SHARES, ODD_THINGS, THIRTY, Case, deep

WRONG = ((2, 1), (-1, 1), (1, 2), (THIRTY, THIRTY - 1), (0, 1), (10 ** 3999, 7))


def lengthened(numbers, many):
    """The numbers, with right steps behind them till there are so many."""
    numbers = list(numbers)
    while len(numbers) < many:
        numbers.append(step_of(tuple(numbers)))
    return tuple(numbers)


class LetsRow(Case):
    def refused_shape(self, thing):
        self.refuses(NoRow, {"word": "shape", "place": 0}, lets_row, thing)

    def refused_step(self, k, thing):
        self.refuses(NoRow, {"word": "step", "place": k}, lets_row, thing)

    def test_the_row(self):
        for n in range(41):
            self.tells(True, lets_row, row_to(n))

    def test_one_number_otherwise(self):
        for n in (0, 1, 2, 3, 7, 19, 40):
            row = row_to(n)
            for k in range(n + 1):
                for wrong in WRONG:
                    if wrong != row[k]:
                        self.refused_step(k, row[:k] + (wrong,) + row[k + 1:])

    def test_the_sign_otherwise(self):
        row = row_to(40)
        for k in range(41):
            top, bottom = row[k]
            if top != 0:
                self.refused_step(k, row[:k] + ((-top, bottom),) + row[k + 1:])

    def test_right_steps_of_a_wrong_one(self):
        row = row_to(40)
        for k in range(0, 41, 4):
            for wrong in ((2, 1), (-5, 7)):
                self.refused_step(k, lengthened(row[:k] + (wrong,), 41))
        self.refused_step(0, lengthened(((0, 1),), 41))

    def test_the_first_of_several(self):
        row = row_to(40)
        for k, later in ((0, 1), (1, 2), (3, 40), (12, 13), (39, 40)):
            wrong = list(row)
            wrong[k] = wrong[later] = (9, 4)
            self.refused_step(k, tuple(wrong))

    def test_how_many(self):
        self.refused_shape(())
        self.tells(True, lets_row, ((1, 1),))
        self.refused_shape(row_to(40) + ((0, 1),))
        self.refused_shape(((1, 1),) * 42)
        self.refused_shape(((1, 1),) * 1000)
        self.refused_step(1, ((1, 1),) * 41)

    def test_a_thing_that_is_no_share(self):
        row = row_to(40)
        for wrong in NO_SHARES:
            for n in (0, 1, 4, 40):
                for at in {0, 1, n // 2, n - 1, n} & set(range(n + 1)):
                    self.refused_shape(row[:at] + (wrong,) + row[at + 1:n + 1])
        for at in range(41):
            self.refused_shape(row[:at] + ((True, 1),) + row[at + 1:])
            self.refused_shape(row[:at] + ((row[at][0] * 2, row[at][1] * 2),) + row[at + 1:])
            self.refused_shape(row[:at] + ((-row[at][0], -row[at][1]),) + row[at + 1:])

    def test_shape_goes_ahead_of_steps(self):
        self.refused_shape(((2, 1), (1, 0)))
        self.refused_shape(((2, 1),) + row_to(40)[1:40] + (None,))
        self.refused_shape(((2, 1),) * 42)

    def test_other_things(self):
        for thing in ODD_THINGS + (0, 1, THIRTY, "1", (1, 1), [(1, 1)], list(row_to(40)), [[1, 1]], deep(39)):
            self.refused_shape(thing)


if __name__ == "__main__":
    unittest.main()
