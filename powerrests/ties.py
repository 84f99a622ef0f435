"""Ties between the row and the numbers of TURNs: each comes from the other."""

from powerrests.polys import value_at
from powerrests.row import number_at
from powerrests.shares import lowest, power_of, times, whole_of
from powerrests.signs import turn_poly
from powerrests.tables import turns_of


def turns_by_row(n):
    """The turns of an odd n, by the row's number at n + 1."""
    factor = lowest(twos_product(n + 1), n + 1)
    return size_of(times(factor, number_at(n + 1)))


def number_by_turns(n):
    """The row's number at an even n from 2 on, by the turns of n - 1."""
    sign = -1 if n % 4 == 0 else 1
    return lowest(sign * n * turns_of(n - 1), twos_product(n))


def turns_by_poly(n):
    """The turns of an even n, by the turn POLY of n."""
    return size_of(times(value_at(turn_poly(n), (1, 2)), (two_to(n), 1)))


def twos_product(n):
    """2 ** n times (2 ** n - 1)."""
    return two_to(n) * (two_to(n) - 1)


def two_to(n):
    """2 ** n."""
    return whole_of(power_of((2, 1), n))


def size_of(share):
    """The whole number that the SHARE is, without its sign."""
    return abs(whole_of(share))
