"""CLAIMs: tuples of a word, what it is about, and an answer."""

from powerrests.plain import are_whole, is_whole
from powerrests.polys import is_poly_within
from powerrests.primes import is_prime
from powerrests.shares import is_share

LAST_PLACE = 40
MOST_SHARES = 13
MOST_SUMMED = 10 ** 30
LAST_FAR = 10 ** 30 - 1
FIRST_PRIME = 5
LAST_PRIME = 199


def is_claim(thing):
    """Whether the plain thing is a CLAIM."""
    if not isinstance(thing, tuple) or thing == () or not isinstance(thing[0], str) or thing[0] not in FORMS:
        return False
    has_form = FORMS[thing[0]]
    return has_form(thing)


def is_number_claim(thing):
    """Whether behind the word stand a place of the row and a SHARE."""
    return len(thing) == 3 and is_place(thing[1]) and is_share(thing[2])


def is_sum_claim(thing):
    """Whether behind the word stand a POLY, how many are summed, and a SHARE."""
    if len(thing) != 4 or not is_poly_within(thing[1], MOST_SHARES):
        return False
    return is_within(thing[2], 0, MOST_SUMMED) and is_share(thing[3])


def is_beneath_claim(thing):
    """Whether behind the word stand a place of the row and a tuple of whole numbers."""
    return len(thing) == 3 and is_place(thing[1]) and are_whole(thing[2])


def is_rest_claim(thing):
    """Whether behind the word stand a FAR place, a prime by which it has a far rest, and a rest."""
    if len(thing) != 4 or not is_far_place(thing[1]) or not is_far_prime(thing[2]):
        return False
    n, p, rest = thing[1:]
    return n % (p - 1) != 0 and is_within(rest, 0, p - 1)


def is_turns_claim(thing):
    """Whether behind the word stand a place and a whole number."""
    return len(thing) == 3 and is_place(thing[1]) and is_whole(thing[2])


FORMS = {
    "number": is_number_claim,
    "sum": is_sum_claim,
    "signed": is_sum_claim,
    "beneath": is_beneath_claim,
    "rest": is_rest_claim,
    "turns": is_turns_claim,
}


def is_place(thing):
    """Whether the plain thing is a whole number from 0 to 40."""
    return is_within(thing, 0, LAST_PLACE)


def is_far_place(thing):
    """Whether the plain thing is a FAR place."""
    return is_within(thing, 2, LAST_FAR) and thing % 2 == 0


def is_far_prime(thing):
    """Whether the plain thing is a prime by which there are far rests."""
    return is_within(thing, FIRST_PRIME, LAST_PRIME) and is_prime(thing)


def is_within(thing, least, most):
    """Whether the plain thing is a whole number from the least to the most."""
    return is_whole(thing) and least <= thing <= most
