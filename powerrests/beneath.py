"""What stands beneath the row's numbers."""

from powerrests.primes import primes_to
from powerrests.row import number_at
from powerrests.shares import lowest, plus, whole_of


def primes_beneath(n):
    """The primes of place n: the rising tuple of all p for which p - 1 divides an even n."""
    if n == 1:
        return (2,)
    if n % 2 == 1:
        return ()
    # No prime is as small as 1, so 0 has none.
    return tuple([p for p in primes_to(n + 1) if n % (p - 1) == 0])


def whole_at(n):
    """The row's number at place n and 1 / p for each of the primes of n, together."""
    return whole_of(with_parts(number_at(n), primes_beneath(n)))


def with_parts(share, primes):
    """The SHARE and 1 / p for each of the primes, together."""
    total = share
    for p in primes:
        total = plus(total, lowest(1, p))
    return total


def beneath_paper(n):
    """The paper that bears what is beneath the row's number at place n."""
    return (whole_at(n), primes_beneath(n))
