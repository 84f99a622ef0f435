"""Sums of a POLY's values and of powers, told by the row for however many there are."""

from powerrests.choices import choose
from powerrests.polys import poly_moved, poly_plus, poly_scaled, poly_stretched, power_poly, value_at
from powerrests.row import row_to
from powerrests.shares import NOUGHT, lowest, times, whole_of


def summed(poly):
    """The POLY with value nought at 0 whose step is the POLY handed in."""
    numbers = row_to(len(poly))
    total = ()
    for n, share in enumerate(poly):
        total = poly_plus(total, poly_scaled(summed_power(n, numbers), share))
    return total


def summed_power(n, numbers):
    """The summed one of x ** n, by the row's numbers to place n or farther."""
    shares = [NOUGHT]
    for k in range(n, -1, -1):
        shares.append(times(lowest(choose(n + 1, k), n + 1), numbers[k]))
    return tuple(shares)


def sum_below(poly, many):
    """The sum of the POLY's values at 0, 1, .., many - 1."""
    return sum_told(summed(poly), many)


def sum_told(paper, many):
    """P(many): the sum below many that the summed POLY P tells."""
    return value_at(paper, (many, 1))


def power_sum(n, many):
    """0 ** n + 1 ** n + .., many in all."""
    return spaced_sum(n, 0, 1, many)


def even_sum(n, many):
    """0 ** n + 2 ** n + .., many in all."""
    return spaced_sum(n, 0, 2, many)


def odd_sum(n, many):
    """1 ** n + 3 ** n + .., many in all."""
    return spaced_sum(n, 1, 2, many)


def spaced_sum(n, first, step, many):
    """The sum of the powers by n of first, first + step, .., many in all."""
    # (first + step x) ** n is x ** n moved by first, then stretched by step.
    powers = poly_stretched(poly_moved(power_poly(n), (first, 1)), (step, 1))
    return whole_of(sum_below(powers, many))
