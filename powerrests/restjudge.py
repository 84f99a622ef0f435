"""The judge of far rests: it reads one number and never needs the row."""

from powerrests.errors import NoPaper
from powerrests.plain import is_whole
from powerrests.restsof import rest_of, rest_of_power


def cut_sum(n, p, a):
    """The rest by p of the sum, over j from 1 to p - 1, of j ** (n - 1) times the floor of j a / p."""
    total = 0
    for j in range(1, p):
        total += rest_of_power(j, n - 1, p) * (j * a // p)
    return rest_of(total, p)


def lets_rest(n, p, rest, thing):
    """True where the plain thing bears that the far rest of n by p is this one; else NoPaper."""
    if not is_whole(thing) or thing < 2 or thing > p - 1:
        raise NoPaper("shape", 0)
    if factor_of(n, p, thing) == 0:
        raise NoPaper("way", 0)
    if rest_of(factor_of(n, p, thing) * rest, p) != told_rest(n, p, thing):
        raise NoPaper("rest", 0)
    return True


def factor_of(n, p, a):
    """The rest of a ** n - 1 by p."""
    return rest_of(rest_of_power(a, n, p) - 1, p)


def told_rest(n, p, a):
    """The rest of a ** (n - 1) times the cut sum by p."""
    return rest_of(rest_of_power(a, n - 1, p) * cut_sum(n, p, a), p)
