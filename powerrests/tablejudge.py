"""The judge of tables: it reads what it is handed and seeks nothing."""

from powerrests.errors import NoPaper
from powerrests.plain import are_whole
from powerrests.tables import row_by_steps

MOST = 41


def lets_table(thing):
    """True where the plain thing is a table; else NoPaper."""
    if not has_shape(thing):
        raise NoPaper("shape", 0)
    for m, row in enumerate(thing):
        if row != due_behind(thing[:m]):
            raise NoPaper("row", m)
    return True


def has_shape(thing):
    """Whether the plain thing is a tuple of one to forty-one tuples of whole numbers."""
    return isinstance(thing, tuple) and 1 <= len(thing) <= MOST and all([are_whole(row) for row in thing])


def due_behind(ahead):
    """The row that must stand behind these."""
    return (1,) if ahead == () else row_by_steps(ahead[-1])
