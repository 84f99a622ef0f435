"""The judge of what stands beneath: it reads what it is handed and seeks nothing."""

from powerrests.beneath import primes_beneath, with_parts
from powerrests.errors import NoPaper
from powerrests.plain import are_whole, is_whole


def lets_beneath(n, share, thing):
    """True where the plain thing bears what is beneath the SHARE at place n; else NoPaper."""
    if not has_shape(thing):
        raise NoPaper("shape", 0)
    whole, primes = thing
    due = primes_beneath(n)
    for k, p in enumerate(primes):
        if p not in due or (k > 0 and p <= primes[k - 1]):
            raise NoPaper("prime", k)
    # All of them are due and each stands there once, so just a lack can differ.
    if len(primes) != len(due):
        raise NoPaper("many", 0)
    if with_parts(share, primes) != (whole, 1):
        raise NoPaper("sum", 0)
    return True


def has_shape(thing):
    """Whether the plain thing is a tuple of a whole number and a tuple of whole numbers."""
    if not isinstance(thing, tuple) or len(thing) != 2:
        return False
    whole, primes = thing
    return is_whole(whole) and are_whole(primes)
