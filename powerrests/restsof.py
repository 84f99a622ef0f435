"""Rests of whole numbers by a prime."""

from powerrests.errors import NoRest


def rest_of(number, p):
    """The rest of the number by p, from 0 to p - 1."""
    return number % p


def rest_of_power(a, n, p):
    """The rest of a ** n by p, for n from 0 on."""
    # By squares of rests, as a ** n itself may be too long to write out.
    rest = 1
    square = rest_of(a, p)
    left = n
    while left > 0:
        if left % 2 == 1:
            rest = rest_of(rest * square, p)
        square = rest_of(square * square, p)
        left //= 2
    return rest


def inverse_of(a, p):
    """The number from 1 to p - 1 that, times a, leaves 1 by p."""
    if rest_of(a, p) == 0:
        raise NoRest(a, p)
    # a ** (p - 1) leaves 1 by a prime p that doesn't divide a.
    return rest_of_power(a, p - 2, p)
