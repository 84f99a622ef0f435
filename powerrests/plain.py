"""What several modules ask of a plain thing."""


def is_whole(thing):
    """Whether the thing is a whole number."""
    # A truth is an int to Python, but no whole number here.
    return isinstance(thing, int) and not isinstance(thing, bool)
