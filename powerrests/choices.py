"""In how many ways some of a number of things are taken."""


def choose(n, k):
    """In how many ways k of n things are taken."""
    if k < 0 or k > n:
        return 0
    ways = 1
    # Taking k is leaving n - k, so the shorter way will do; each division comes out even.
    for taken in range(min(k, n - k)):
        ways = ways * (n - taken) // (taken + 1)
    return ways


def choices_of(n):
    """The tuple of choose(n, 0) to choose(n, n)."""
    return tuple([choose(n, k) for k in range(n + 1)])
