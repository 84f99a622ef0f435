"""The judge of the row: it reads what it is handed and seeks nothing."""

from powerrests.errors import NoRow
from powerrests.row import step_of
from powerrests.shares import ONE, are_shares

MOST = 41


def lets_row(thing):
    """True where the plain thing is the row to a place; else NoRow."""
    if not has_shape(thing):
        raise NoRow("shape", 0)
    for k, number in enumerate(thing):
        if number != due_behind(thing[:k]):
            raise NoRow("step", k)
    return True


def has_shape(thing):
    """Whether the plain thing is a tuple of one to forty-one SHAREs."""
    return isinstance(thing, tuple) and 1 <= len(thing) <= MOST and are_shares(thing)


def due_behind(ahead):
    """The number that must stand behind these."""
    return ONE if ahead == () else step_of(ahead)
