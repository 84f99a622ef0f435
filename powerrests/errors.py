"""The refusals. Each keeps the very things that it is made of and looks at none of them."""


class PowerError(ValueError):
    """Any refusal."""


class NoShare(PowerError):
    """There is no such SHARE."""

    def __init__(self, word):
        self.word = word


class NoRest(PowerError):
    """The number has no such rest, or no inverse, by the prime."""

    def __init__(self, number, prime):
        self.number = number
        self.prime = prime


class NoRow(PowerError):
    """The thing is not the row to a place."""

    def __init__(self, word, place):
        self.word = word
        self.place = place


class NoPaper(PowerError):
    """The thing does not bear what it should."""

    def __init__(self, word, place):
        self.word = word
        self.place = place


class NoTurn(PowerError):
    """There is no such TURN."""

    def __init__(self, word, thing):
        self.word = word
        self.thing = thing


class NoText(PowerError):
    """The thing is not a text that can be read."""

    def __init__(self, word, place):
        self.word = word
        self.place = place


class NoLine(PowerError):
    """The row is none that a desk knows."""

    def __init__(self, row):
        self.row = row
