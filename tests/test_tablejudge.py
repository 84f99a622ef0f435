"""[4], [33]: the judge of tables."""

import unittest

from powerrests.errors import NoPaper
from powerrests.tablejudge import lets_table
from powerrests.tables import row_by_steps, table_to
from tests.helping import ODD_THINGS, THIRTY, Case, deep

# What may not stand in a row, and not in the place of one either.
NO_NUMBERS = (None, True, False, "", "1", [], [1], {}, {1: 1})


def exchanged(thing, at, other):
    """The tuple with another thing at a place."""
    return thing[:at] + (other,) + thing[at + 1:]


def lengthened(table, many):
    """The table, with rows that are right behind each other till there are so many."""
    while len(table) < many:
        table += (row_by_steps(table[-1]),)
    return table


class LetsTable(Case):
    def refused_shape(self, thing):
        self.refuses(NoPaper, {"word": "shape", "place": 0}, lets_table, thing)

    def refused_row(self, m, thing):
        self.refuses(NoPaper, {"word": "row", "place": m}, lets_table, thing)

    def test_tables(self):
        for n in range(41):
            self.tells(True, lets_table, table_to(n))

    def test_how_many(self):
        self.refused_shape(())
        table = lengthened(table_to(40), 42)
        self.refused_shape(table)
        self.tells(True, lets_table, table[:41])
        self.refused_shape(((1,),) * 42)
        self.refused_row(1, ((1,),) * 41)
        self.refused_shape(((),) * 1000)

    def test_a_first_row_otherwise(self):
        for first in ((), (0,), (2,), (-1,), (1, 1), (0, 1), (1, 0), (THIRTY,), (10 ** 3999,)):
            for n in (0, 1, 5, 40):
                self.refused_row(0, (first,) + table_to(n)[1:])
            if first:
                self.refused_row(0, lengthened((first,), 41))

    def test_one_number_otherwise(self):
        for n in (0, 1, 2, 3, 6, 40):
            table = table_to(n)
            for m in range(n + 1):
                for k in {0, 1, m // 2, m - 1, m} & set(range(m + 1)):
                    for more in (1, -1, THIRTY, 10 ** 3000):
                        self.refused_row(m, exchanged(table, m, exchanged(table[m], k, table[m][k] + more)))

    def test_right_rows_behind_a_wrong_one(self):
        table = table_to(40)
        for m in range(1, 41):
            wrong = exchanged(table[m], m, table[m][m] + 1)
            self.refused_row(m, lengthened(table[:m] + (wrong,), 41))

    def test_rows_of_another_length(self):
        for n in (0, 1, 2, 7, 40):
            table = table_to(n)
            for m in range(n + 1):
                row = table[m]
                for other in ((), row[1:], row[:-1], row + (0,), row + row[-1:], (0,) + row, row + row):
                    self.refused_row(m, exchanged(table, m, other))

    def test_rows_twice_left_out_exchanged(self):
        table = table_to(40)
        for m in range(40):
            self.refused_row(m + 1, (table[:m + 1] + table[m:])[:41])
            self.refused_row(m, table[:m] + table[m + 1:])
            for later in {m + 1, (m + 41) // 2, 40}:
                self.refused_row(m, exchanged(exchanged(table, m, table[later]), later, table[m]))
        self.refused_row(0, table[::-1])
        self.refused_row(2, exchanged(table, 2, table[2][::-1]))

    def test_the_first_of_several(self):
        table = table_to(40)
        for m, later in ((0, 1), (1, 2), (3, 40), (12, 13), (39, 40)):
            self.refused_row(m, exchanged(exchanged(table, later, ()), m, (9,)))
            self.refused_row(m, exchanged(exchanged(table, later, (0,) * later), m, (0,) * 41))

    def test_a_thing_that_is_no_number(self):
        for n in (0, 1, 4, 40):
            table = table_to(n)
            for m in {0, 1, n // 2, n} & set(range(n + 1)):
                for k in {0, 1, m // 2, m} & set(range(m + 1)):
                    for wrong in NO_NUMBERS + ((), (1,), table[m], str(table[m][k]), (table[m][k],)):
                        self.refused_shape(exchanged(table, m, exchanged(table[m], k, wrong)))
                self.refused_shape(exchanged(table, m, table[m] + (None,)))

    def test_truths_in_the_place_of_numbers(self):
        table = table_to(6)
        for m, row in enumerate(table):
            for k, number in enumerate(row):
                if number in (0, 1):
                    self.refused_shape(exchanged(table, m, exchanged(row, k, number == 1)))

    def test_a_row_that_is_no_tuple(self):
        for n in (0, 1, 4, 40):
            table = table_to(n)
            for m in range(n + 1):
                row = table[m]
                for wrong in NO_NUMBERS + (0, 1, list(row), dict(enumerate(row)), str(row), (row,), row[0]):
                    self.refused_shape(exchanged(table, m, wrong))

    def test_shape_goes_ahead_of_rows(self):
        table = table_to(40)
        self.refused_shape(((2,), [0, 1]))
        self.refused_shape(exchanged(exchanged(table, 0, ()), 40, None))
        self.refused_shape(exchanged(exchanged(table, 3, (7,)), 40, table[40][:-1] + (True,)))
        self.refused_shape(((2,),) * 42)

    def test_other_things(self):
        # Of tuples of tuples of whole numbers the first row is looked at.
        rows = [thing for thing in ODD_THINGS if isinstance(thing, tuple) and thing
                and all(isinstance(row, tuple) and all(type(number) is int for number in row) for row in thing)]
        for thing in rows + [((),), ((1, 2),), ((1, 2), (1, 3))]:
            self.refused_row(0, thing)
        others = [thing for thing in ODD_THINGS if thing not in rows]
        for thing in others + [0, 1, THIRTY, "1", (1,), (1, 2), [(1,)], [[1]], {0: (1,)}, list(table_to(40)),
                               [list(row) for row in table_to(40)], (table_to(4),), (((1,),),), deep(39)]:
            self.refused_shape(thing)


if __name__ == "__main__":
    unittest.main()
