"""CLAIMs judged: a paper for each, or for the one that is so in its place."""

from powerrests.beneath import beneath_paper
from powerrests.rests import far_rest, rest_paper
from powerrests.row import row_to
from powerrests.signs import signed, signed_told
from powerrests.sums import sum_told, summed
from powerrests.tables import table_to


def judged(claim):
    """("so", paper) where the CLAIM is so; else ("not", other, paper), other the CLAIM that is so in its place."""
    find = FINDERS[claim[0]]
    answer, paper = find(claim)
    right = claim[:-1] + (answer,)
    return ("so", paper) if right == claim else ("not", right, paper)


def number_found(claim):
    """The row's number at the place, and the row to it."""
    row = row_to(claim[1])
    return (row[-1], row)


def sum_found(claim):
    """The sum, and the summed POLY."""
    word, poly, many, share = claim
    paper = summed(poly)
    return (sum_told(paper, many), paper)


def signed_found(claim):
    """The signed sum, and the signed POLY."""
    word, poly, many, share = claim
    paper = signed(poly)
    return (signed_told(paper, many), paper)


def primes_found(claim):
    """The primes of the place, and the row to it with its whole."""
    whole, primes = beneath_paper(claim[1])
    return (primes, (row_to(claim[1]), whole))


def rest_found(claim):
    """The far rest, and a number that bears it."""
    word, n, p, rest = claim
    return (far_rest(n, p), rest_paper(n, p))


def turns_found(claim):
    """The turns of the place, and the table to it."""
    table = table_to(claim[1])
    return (table[-1][-1], table)


FINDERS = {
    "number": number_found,
    "sum": sum_found,
    "signed": signed_found,
    "beneath": primes_found,
    "rest": rest_found,
    "turns": turns_found,
}
