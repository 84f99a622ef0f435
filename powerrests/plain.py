"""What several modules ask of a plain thing."""


def is_whole(thing):
    """Whether the thing is a whole number."""
    # A truth is an int to Python, but no whole number here.
    return isinstance(thing, int) and not isinstance(thing, bool)


def are_whole(thing):
    """Whether the thing is a tuple of whole numbers."""
    return isinstance(thing, tuple) and all([is_whole(number) for number in thing])
