"""The judge of CLAIMs: it reads a paper and seeks nothing."""

from powerrests.beneathjudge import lets_beneath
from powerrests.errors import NoPaper, NoRow
from powerrests.restjudge import lets_rest
from powerrests.rowjudge import lets_row
from powerrests.signjudge import lets_signed
from powerrests.signs import signed_told
from powerrests.sumjudge import lets_summed
from powerrests.sums import sum_told
from powerrests.tablejudge import lets_table


def lets_claim(claim, thing):
    """True where the plain thing is a paper of the CLAIM; else NoPaper."""
    lets = JUDGES[claim[0]]
    return lets(claim, thing)


def lets_number(claim, thing):
    """True where the plain thing is the row to n and its last number the answer; else NoPaper."""
    word, n, share = claim
    lets_row_to(n, thing)
    return holds(thing[n] == share, "value")


def lets_sum(claim, thing):
    """True where the plain thing is the summed POLY and tells the answer; else NoPaper."""
    word, poly, many, share = claim
    lets_summed(poly, thing)
    return holds(sum_told(thing, many) == share, "value")


def lets_signed_sum(claim, thing):
    """True where the plain thing is the signed POLY and tells the answer; else NoPaper."""
    word, poly, many, share = claim
    lets_signed(poly, thing)
    return holds(signed_told(thing, many) == share, "value")


def lets_primes(claim, thing):
    """True where the plain thing is the row to n and the whole that goes with the primes; else NoPaper."""
    word, n, primes = claim
    holds(isinstance(thing, tuple) and len(thing) == 2, "shape")
    row, whole = thing
    lets_row_to(n, row)
    return lets_beneath(n, row[n], (whole, primes))


def lets_far_rest(claim, thing):
    """True where the plain thing bears the rest; else NoPaper."""
    word, n, p, rest = claim
    return lets_rest(n, p, rest, thing)


def lets_turns(claim, thing):
    """True where the plain thing is the table to n and its last number the answer; else NoPaper."""
    word, n, count = claim
    lets_table(thing)
    holds(len(thing) == n + 1, "long")
    return holds(thing[n][n] == count, "value")


JUDGES = {
    "number": lets_number,
    "sum": lets_sum,
    "signed": lets_signed_sum,
    "beneath": lets_primes,
    "rest": lets_far_rest,
    "turns": lets_turns,
}


def lets_row_to(n, thing):
    """True where the plain thing is the row to n; else NoPaper."""
    try:
        lets_row(thing)
    except NoRow as e:
        raise NoPaper(e.word, e.place) from e
    return holds(len(thing) == n + 1, "long")


def holds(truth, word):
    """True where it is; else NoPaper with the word."""
    if not truth:
        raise NoPaper(word, 0)
    return True
