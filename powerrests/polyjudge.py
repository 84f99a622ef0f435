"""The judge of the row's POLYs: it reads what it is handed and seeks nothing."""

from powerrests.errors import NoPaper
from powerrests.polys import first_unlike, is_poly_within, mean_of, poly_scaled, poly_step, power_poly
from powerrests.shares import NOUGHT, ONE

MOST = 21


def lets_row_poly(n, thing):
    """True where the plain thing is the row's POLY of n; else NoPaper."""
    if not is_poly_within(thing, MOST):
        raise NoPaper("shape", 0)
    unlike = first_unlike(poly_step(thing), step_due(n))
    if unlike is not None:
        raise NoPaper("step", unlike)
    if mean_of(thing) != mean_due(n):
        raise NoPaper("mean", 0)
    return True


def step_due(n):
    """The step of the row's POLY of n: n times x ** (n - 1)."""
    return () if n == 0 else poly_scaled(power_poly(n - 1), (n, 1))


def mean_due(n):
    """The mean of the row's POLY of n."""
    return ONE if n == 0 else NOUGHT
