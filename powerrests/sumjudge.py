"""The judge of summed POLYs: it reads what it is handed and seeks nothing."""

from powerrests.errors import NoPaper
from powerrests.polys import first_unlike, is_poly_within, poly_step, value_at
from powerrests.shares import NOUGHT

MOST = 24


def lets_summed(poly, thing):
    """True where the plain thing is the summed one of the POLY; else NoPaper."""
    if not is_poly_within(thing, MOST):
        raise NoPaper("shape", 0)
    if value_at(thing, NOUGHT) != NOUGHT:
        raise NoPaper("nought", 0)
    unlike = first_unlike(poly_step(thing), poly)
    if unlike is not None:
        raise NoPaper("step", unlike)
    return True
