"""The places of the TURNs that go down, in rising order."""

from powerrests.errors import NoTurn
from powerrests.tables import table_to, turns_of
from powerrests.turns import goes_down, may_follow

MOST = 20


def turn_at(n, place):
    """The TURN at this place among those of n that go down."""
    if place < 0 or place >= turns_of(n):
        raise NoTurn("place", place)
    table = table_to(n)
    ahead = ()
    left = place
    while len(ahead) < n:
        number = 0
        # All TURNs that begin with a lesser number here stand ahead of the one sought.
        while left >= how_many_begin(table, n, ahead, number):
            left -= how_many_begin(table, n, ahead, number)
            number += 1
        ahead += (number,)
    return ahead


def place_of(thing):
    """The place of a TURN that goes down, of at most twenty numbers."""
    if not goes_down(thing) or len(thing) > MOST:
        raise NoTurn("row", thing)
    n = len(thing)
    table = table_to(n)
    place = 0
    for k, number in enumerate(thing):
        for lesser in range(number):
            place += how_many_begin(table, n, thing[:k], lesser)
    return place


def how_many_begin(table, n, ahead, number):
    """How many TURNs of n that go down begin with the numbers ahead and then this number."""
    if not may_follow(ahead, number):
        return 0
    free = [k for k in range(n) if k not in ahead]
    row = table[len(free) - 1]
    rank = free.index(number)
    # Only the order of the free numbers counts. Where they go up first, upside down they go down.
    return row[rank] if len(ahead) % 2 == 0 else row[-1 - rank]
