"""The judge of signed POLYs: it reads what it is handed and seeks nothing."""

from powerrests.errors import NoPaper
from powerrests.polys import first_unlike, is_poly_within, poly_pair

MOST = 24


def lets_signed(poly, thing):
    """True where the plain thing is the signed one of the POLY; else NoPaper."""
    if not is_poly_within(thing, MOST):
        raise NoPaper("shape", 0)
    unlike = first_unlike(poly_pair(thing), poly)
    if unlike is not None:
        raise NoPaper("pair", unlike)
    return True
