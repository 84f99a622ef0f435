"""The row: 1, -1/2, 1/6, 0, -1/30, .., each number the step of all ahead of it."""

from powerrests.choices import choose
from powerrests.shares import NOUGHT, ONE, lowest, plus, times


def step_of(shares):
    """The SHARE r(n) behind r(0), .., r(n - 1) by which the sum of choose(n + 1, k) r(k) is nought."""
    n = len(shares)
    total = NOUGHT
    for k, share in enumerate(shares):
        total = plus(total, times((choose(n + 1, k), 1), share))
    # r(n) itself is taken n + 1 times.
    return times(total, lowest(-1, n + 1))


def row_to(n):
    """The tuple of the row's numbers at the places 0 to n."""
    numbers = [ONE]
    while len(numbers) <= n:
        numbers.append(step_of(numbers))
    return tuple(numbers)


def number_at(n):
    """The row's number at place n."""
    return row_to(n)[n]
