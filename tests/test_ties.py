"""[4], [35]: the row and the numbers of TURNs come from each other."""

import unittest

from powerrests.row import number_at
from powerrests.tables import turns_of
from powerrests.ties import number_by_turns, turns_by_poly, turns_by_row
from tests.helping import TURNS, Case, due_at


class Ties(Case):
    def test_turns_by_row(self):
        for n in range(1, 40, 2):
            self.tells(TURNS[n], turns_by_row, n)
            self.tells(turns_of(n), turns_by_row, n)

    def test_number_by_turns(self):
        for n in range(2, 41, 2):
            self.tells(due_at(n), number_by_turns, n)
            self.tells(number_at(n), number_by_turns, n)
            self.is_right_share(number_by_turns(n))

    def test_turns_by_poly(self):
        for n in range(0, 21, 2):
            self.tells(TURNS[n], turns_by_poly, n)
            self.tells(turns_of(n), turns_by_poly, n)

    def test_written_out(self):
        for n, due in ((1, 1), (3, 2), (5, 16), (7, 272), (9, 7936)):
            self.tells(due, turns_by_row, n)
        for n, due in ((2, (1, 6)), (4, (-1, 30)), (6, (1, 42)), (8, (-1, 30)), (10, (5, 66)), (12, (-691, 2730))):
            self.tells(due, number_by_turns, n)
        for n, due in ((0, 1), (2, 1), (4, 5), (6, 61), (8, 1385), (20, 370371188237525)):
            self.tells(due, turns_by_poly, n)


if __name__ == "__main__":
    unittest.main()
