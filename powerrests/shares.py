"""SHAREs: exact numbers (top, bottom) in lowest terms, the bottom from 1 on."""

from powerrests.errors import NoShare
from powerrests.plain import is_whole

NOUGHT = (0, 1)
ONE = (1, 1)


def is_share(thing):
    """Whether the plain thing is a SHARE."""
    if not isinstance(thing, tuple) or len(thing) != 2:
        return False
    top, bottom = thing
    if not is_whole(top) or not is_whole(bottom) or bottom < 1:
        return False
    return common_of(top, bottom) == 1


def are_shares(thing):
    """Whether the plain thing is a tuple of SHAREs."""
    if not isinstance(thing, tuple):
        return False
    for part in thing:
        if not is_share(part):
            return False
    return True


def common_of(top, bottom):
    """The greatest whole number that divides both."""
    one, other = abs(top), abs(bottom)
    while other != 0:
        one, other = other, one % other
    return one


def lowest(top, bottom):
    """The SHARE that top over bottom is."""
    if bottom == 0:
        raise NoShare("bottom")
    common = common_of(top, bottom)
    if bottom < 0:
        common = -common
    return (top // common, bottom // common)


def plus(one, other):
    """Both together."""
    return lowest(one[0] * other[1] + other[0] * one[1], one[1] * other[1])


def minus(one, other):
    """The second taken away from the first."""
    return lowest(one[0] * other[1] - other[0] * one[1], one[1] * other[1])


def times(one, other):
    """The product of both."""
    return lowest(one[0] * other[0], one[1] * other[1])


def over(one, other):
    """The first divided by the second."""
    if other[0] == 0:
        raise NoShare("nought")
    return lowest(one[0] * other[1], one[1] * other[0])


def power_of(one, n):
    """The SHARE's power by n."""
    top, bottom = 1, 1
    # What no number divides in both, none divides in their powers: no need to lower again.
    for multiplied in range(n):
        top *= one[0]
        bottom *= one[1]
    return (top, bottom)


def is_less(one, other):
    """Whether the first is less than the second."""
    return one[0] * other[1] < other[0] * one[1]


def floor_of(one):
    """The greatest whole number that is not greater than the SHARE."""
    return one[0] // one[1]


def whole_of(one):
    """The whole number that the SHARE is, or None."""
    return one[0] if one[1] == 1 else None
