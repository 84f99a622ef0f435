"""Sums with signs in turn, told by a POLY for however many there are."""

from powerrests.choices import choose
from powerrests.polys import poly_scaled, power_poly, value_at
from powerrests.shares import NOUGHT, lowest, minus, plus, times


def signed(poly):
    """The POLY whose pair is the POLY handed in."""
    numbers = [NOUGHT] * len(poly)
    # A pair's number at x ** k is twice the one there and something of the higher ones, so the highest comes first.
    for k in range(len(poly) - 1, -1, -1):
        numbers[k] = times(minus(poly[k], moved_from_above(numbers, k)), lowest(1, 2))
    return tuple(numbers)


def moved_from_above(numbers, k):
    """What the numbers behind place k bring to x ** k where x + 1 stands for x."""
    total = NOUGHT
    for j in range(k + 1, len(numbers)):
        total = plus(total, times((choose(j, k), 1), numbers[j]))
    return total


def signed_below(poly, many):
    """Q(0) - Q(1) + Q(2) - .., many in all."""
    return signed_told(signed(poly), many)


def signed_told(paper, many):
    """P(0) - ((-1) ** many) P(many): the signed sum below many that the signed POLY P tells."""
    first, last = value_at(paper, NOUGHT), value_at(paper, (many, 1))
    return minus(first, last) if many % 2 == 0 else plus(first, last)


def turn_poly(n):
    """The turn POLY of n: the signed one of 2 x ** n."""
    return signed(poly_scaled(power_poly(n), (2, 1)))
