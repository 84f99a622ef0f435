"""Differences of values, and POLYs by them."""

from powerrests.polys import poly_back, poly_plus, poly_scaled, poly_times, value_at
from powerrests.shares import NOUGHT, ONE, lowest, minus, plus


def columns_of(values):
    """The VALUES, then of each column the differences of neighbours, till one is left alone."""
    columns = [values]
    while len(columns[-1]) > 1:
        columns.append(differences_of(columns[-1]))
    return tuple(columns)


def differences_of(column):
    """Of each two neighbours the later less the earlier."""
    return tuple([minus(later, earlier) for earlier, later in zip(column, column[1:])])


def next_value(values):
    """The sum of the last ones of all columns."""
    total = NOUGHT
    for column in columns_of(values):
        total = plus(total, column[-1])
    return total


def poly_through(values):
    """The POLY, of no more SHAREs than there are VALUES, whose value at k is the k-th one."""
    # The steps of a POLY at 0 go with x (x - 1) .. (x - k + 1) over 1 times 2 .. times k.
    return poly_by_ways([column[0] for column in columns_of(values)], -1)


def backs_of(poly):
    """The values at 0 of the POLY stepped back 0, 1, 2, .. times, as many as its SHAREs."""
    numbers = []
    left = poly
    while len(numbers) < len(poly):
        numbers.append(value_at(left, NOUGHT))
        left = poly_back(left)
    return tuple(numbers)


def poly_of_backs(numbers):
    """The POLY that has these back numbers."""
    # The back steps at 0 go with x (x + 1) .. (x + k - 1) over 1 times 2 .. times k.
    return poly_by_ways(numbers, 1)


def poly_by_ways(numbers, sign):
    """The sum of the k-th number times the product of (x + sign j) / (j + 1), over all j below k."""
    total = ()
    way = (ONE,)
    for k, number in enumerate(numbers):
        total = poly_plus(total, poly_scaled(way, number))
        way = poly_times(way, (lowest(sign * k, k + 1), lowest(1, k + 1)))
    return total
