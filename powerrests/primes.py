"""Primes, and the primes that a number is made of."""

from powerrests.plain import is_whole

# Divisors to here settle every number to 10 ** 6. Above that no answer is promised,
# and a number of thousands of figures must not be tried to its root.
LAST_TRIED = 1000


def is_prime(thing):
    """Whether the plain thing is a prime (promised of no whole number above 10 ** 6)."""
    if not is_whole(thing) or thing < 2:
        return False
    part = 2
    while part <= LAST_TRIED and part * part <= thing:
        if thing % part == 0:
            return False
        part += 1
    return True


def primes_to(n):
    """The rising tuple of the primes not above n."""
    return tuple([k for k in range(2, n + 1) if is_prime(k)])


def parts_of(n):
    """The rising tuple of pairs (p, many): p divides n, many times one behind the other."""
    pairs = []
    left = n
    part = 2
    while part * part <= left:
        many = 0
        while left % part == 0:
            left //= part
            many += 1
        if many > 0:
            pairs.append((part, many))
        part += 1
    if left > 1:
        pairs.append((left, 1))
    return tuple(pairs)
