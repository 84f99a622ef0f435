"""The polynomials of the row, and POLYs spread."""

from powerrests.choices import choose
from powerrests.polys import poly_moved, poly_plus
from powerrests.row import row_to
from powerrests.shares import lowest, times


def row_poly(n):
    """The row's POLY of n: at x ** k choose(n, k) times the row's number at n - k."""
    numbers = row_to(n)
    return tuple([times((choose(n, k), 1), numbers[n - k]) for k in range(n + 1)])


def spread(poly, m):
    """The sum of P(x + j / m), over j from 0 to m - 1."""
    total = ()
    for j in range(m):
        total = poly_plus(total, poly_moved(poly, lowest(j, m)))
    return total
