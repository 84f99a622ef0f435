"""[4], [32]: tables by steps and by sums, and how many TURNs go down."""

import unittest
from itertools import permutations

from powerrests.tables import row_by_steps, row_by_sums, table_to, turns_of
from tests.helping import THIRTY, TURNS, Case, Odd, is_wave


def steps_by_hand(row):
    m = len(row) - 1
    behind = [0]
    for k in range(1, m + 2):
        behind.append(behind[k - 1] + row[m + 1 - k])
    return tuple(behind)


def some_rows():
    odd = Odd(52)
    few = [(0,), (1,), (-1,), (THIRTY,), (-THIRTY,), (0, 0), (0, 1), (1, 0), (3, -3), (-3, 3), (1, 2, 3, 4), (0,) * 40,
           (1,) * 40, (THIRTY,) * 40, (-THIRTY,) * 40, (THIRTY, -THIRTY) * 20, tuple(range(-20, 20))]
    return few + [tuple(odd.whole(figures) for _ in range(many)) for many in range(1, 41) for figures in (1, 9, 30)]


class RowBehind(Case):
    def test_both_ways(self):
        for row in some_rows():
            due = steps_by_hand(row)
            self.tells(due, row_by_steps, row)
            self.tells(due, row_by_sums, row)
            self.assertEqual((due[0], len(due)), (0, len(row) + 1))

    def test_sums_of_the_last_ones(self):
        for row in some_rows():
            due = tuple(sum(row[::-1][:k]) for k in range(len(row) + 1))
            self.tells(due, row_by_sums, row)
            self.tells(due, row_by_steps, row)

    def test_written_out(self):
        for row, due in (((1,), (0, 1)), ((0, 1), (0, 1, 1)), ((0, 1, 1), (0, 1, 2, 2)), ((-7,), (0, -7)),
                         ((0, 0), (0, 0, 0)), ((5, -2, 10), (0, 10, 8, 13)), ((0, 1, 2, 2), (0, 2, 4, 5, 5))):
            self.tells(due, row_by_steps, row)
            self.tells(due, row_by_sums, row)

    def test_of_what_was_told(self):
        for start in ((1,), (0,), (-4,), (3, 5), (THIRTY, -1, 8)):
            row = start
            while len(row) <= 40:
                behind = self.told(row_by_steps, row)
                self.tells(behind, row_by_sums, row)
                self.assertEqual(behind, steps_by_hand(row))
                row = behind


class Table(Case):
    def test_rows_behind(self):
        for n in range(41):
            table = self.told(table_to, n)
            self.assertIs(type(table), tuple)
            self.assertEqual(len(table), n + 1)
            self.assertEqual(table[0], (1,))
            for m, row in enumerate(table):
                self.assertIs(type(row), tuple)
                self.assertEqual([type(number) for number in row], [int] * (m + 1))
            for row, behind in zip(table, table[1:]):
                self.assertEqual(behind, steps_by_hand(row))
                self.assertEqual(behind, row_by_sums(row))

    def test_by_going_through_the_turns(self):
        table = table_to(6)
        for m in range(7):
            down = [numbers for numbers in permutations(range(m + 1)) if is_wave(numbers)
                    and (m == 0 or numbers[0] > numbers[1])]
            self.assertEqual(table[m], tuple(len([one for one in down if one[0] == k]) for k in range(m + 1)))

    def test_written_out(self):
        self.tells(((1,),), table_to, 0)
        self.tells(((1,), (0, 1)), table_to, 1)
        self.tells(((1,), (0, 1), (0, 1, 1), (0, 1, 2, 2), (0, 2, 4, 5, 5), (0, 5, 10, 14, 16, 16)), table_to, 5)

    def test_how_many_turns(self):
        for n in range(41):
            self.tells(TURNS[n], turns_of, n)
            self.tells(table_to(n)[n][-1], turns_of, n)

    def test_how_many_turns_written_out(self):
        for n, due in enumerate((1, 1, 1, 2, 5, 16, 61, 272, 1385, 7936, 50521, 353792, 2702765, 22368256)):
            self.tells(due, turns_of, n)
        self.tells(370371188237525, turns_of, 20)


if __name__ == "__main__":
    unittest.main()
