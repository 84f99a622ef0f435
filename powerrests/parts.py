"""Like powers of PARTS, and the sums of their products."""

from powerrests.shares import NOUGHT, ONE, lowest, minus, plus, times


def like_powers(parts, m):
    """The sums of the PARTS' powers by 0 to m."""
    sums = []
    powers = [1] * len(parts)
    while len(sums) <= m:
        sums.append(sum(powers))
        powers = [power * part for power, part in zip(powers, parts)]
    return tuple(sums)


def products_of(parts):
    """At k the sum, over all ways to take k of the PARTS, of the product of these."""
    products = [1]
    for part in parts:
        # A way either leaves this part out or takes it, with one fewer of those ahead.
        left, taken = products + [0], [0] + [product * part for product in products]
        products = [one + other for one, other in zip(left, taken)]
    return tuple(products)


def products_by_powers(powers):
    """The products that go with like powers, as many of these as of those."""
    products = [ONE]
    for k in range(1, len(powers)):
        products.append(times(turned_sum(products, powers, k, k), lowest(1, k)))
    return tuple(products)


def powers_by_products(products, m):
    """The like powers to m that go with products, noughts standing behind these."""
    filled = (ONE,) + products[1:] + (NOUGHT,) * m
    powers = [(len(products) - 1, 1)]
    for k in range(1, m + 1):
        # In the sum to k the power by k itself stands alone, as the product at 0 is 1.
        ahead = turned_sum(filled, powers, k, k - 1)
        powers.append(turned(minus(times((k, 1), filled[k]), ahead), k))
    return tuple(powers)


def turned_sum(products, powers, k, last):
    """The sum, over i from 1 to last, of (-1) ** (i - 1) times the product at k - i and the power by i."""
    total = NOUGHT
    for i in range(1, last + 1):
        total = plus(total, turned(times(products[k - i], powers[i]), i))
    return total


def turned(share, i):
    """The SHARE times (-1) ** (i - 1)."""
    return share if i % 2 == 1 else times(share, (-1, 1))
