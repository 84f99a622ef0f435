"""POLYs: tuples of SHAREs, the number at x ** k at place k, the last one not nought."""

from powerrests.shares import NOUGHT, ONE, are_shares, lowest, plus, times

MINUS_ONE = (-1, 1)


def is_poly(thing):
    """Whether the plain thing is a POLY."""
    return are_shares(thing) and (thing == () or thing[-1] != NOUGHT)


def is_poly_within(thing, most):
    """Whether the plain thing is a POLY of at most so many SHAREs."""
    return isinstance(thing, tuple) and len(thing) <= most and is_poly(thing)


def number_within(poly, k):
    """The POLY's number at x ** k, nought beyond its end."""
    return poly[k] if k < len(poly) else NOUGHT


def first_unlike(one, other):
    """The least k such that two POLYs have unlike numbers at x ** k, or None."""
    for k in range(max(len(one), len(other))):
        if number_within(one, k) != number_within(other, k):
            return k
    return None


def trimmed(shares):
    """The POLY of these SHAREs: noughts at the end don't count."""
    end = len(shares)
    while end > 0 and shares[end - 1] == NOUGHT:
        end -= 1
    return tuple(shares[:end])


def power_poly(n):
    """x ** n."""
    return (NOUGHT,) * n + (ONE,)


def value_at(poly, share):
    """The value of the POLY at the SHARE."""
    value = NOUGHT
    for number in reversed(poly):
        value = plus(times(value, share), number)
    return value


def poly_plus(one, other):
    """The sum of two POLYs."""
    shorter, longer = sorted([one, other], key=len)
    numbers = list(longer)
    for k, number in enumerate(shorter):
        numbers[k] = plus(numbers[k], number)
    return trimmed(numbers)


def poly_times(one, other):
    """The product of two POLYs."""
    numbers = [NOUGHT] * (len(one) + len(other))
    for k, number in enumerate(one):
        for j, factor in enumerate(other):
            numbers[k + j] = plus(numbers[k + j], times(number, factor))
    return trimmed(numbers)


def poly_scaled(poly, share):
    """The POLY times the SHARE."""
    return trimmed([times(number, share) for number in poly])


def poly_moved(poly, share):
    """P(x + h), h the SHARE."""
    moved = ()
    for number in reversed(poly):
        moved = poly_plus(poly_times(moved, (share, ONE)), (number,))
    return moved


def poly_mirrored(poly, share):
    """P(h - x), h the SHARE."""
    return poly_stretched(poly_moved(poly, share), MINUS_ONE)


def poly_stretched(poly, share):
    """P(m x), m the SHARE."""
    numbers = []
    factor = ONE
    for number in poly:
        numbers.append(times(number, factor))
        factor = times(factor, share)
    return trimmed(numbers)


def poly_step(poly):
    """P(x + 1) - P(x)."""
    return poly_plus(poly_moved(poly, ONE), poly_scaled(poly, MINUS_ONE))


def poly_back(poly):
    """P(x) - P(x - 1)."""
    return poly_plus(poly, poly_scaled(poly_moved(poly, MINUS_ONE), MINUS_ONE))


def poly_pair(poly):
    """P(x + 1) + P(x)."""
    return poly_plus(poly_moved(poly, ONE), poly)


def mean_of(poly):
    """The sum, over the places k, of the number there over k + 1."""
    total = NOUGHT
    for k, number in enumerate(poly):
        total = plus(total, times(number, lowest(1, k + 1)))
    return total
