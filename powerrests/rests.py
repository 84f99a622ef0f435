"""Rests of SHAREs and of the row's numbers by a prime."""

from powerrests.errors import NoRest
from powerrests.restjudge import factor_of, told_rest
from powerrests.restsof import inverse_of, rest_of
from powerrests.row import number_at


def share_rest(share, p):
    """The rest of the SHARE by p."""
    top, bottom = share
    if rest_of(bottom, p) == 0:
        raise NoRest(share, p)
    return rest_of(top * inverse_of(bottom, p), p)


def row_rest(n, p):
    """The rest of the row's number at place n by p."""
    number = number_at(n)
    if rest_of(number[1], p) == 0:
        raise NoRest(n, p)
    return share_rest(number, p)


def far_rest(n, p):
    """The rest by p of the row's number at the FAR place n over n."""
    # What a paper bears is the far rest, so it can be told from one, however far n is.
    a = rest_paper(n, p)
    return rest_of(told_rest(n, p, a) * inverse_of(factor_of(n, p, a), p), p)


def rest_paper(n, p):
    """A number that bears the far rest of n by p: the least whose power by n doesn't leave 1."""
    if n % (p - 1) == 0:
        raise NoRest(n, p)
    a = 2
    # There is one: some number's powers leave 1 just where p - 1 divides what they are by.
    while factor_of(n, p, a) == 0:
        a += 1
    return a
