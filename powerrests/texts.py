"""Texts of SHAREs: just what is written here is read."""

from powerrests.errors import NoText
from powerrests.shares import NOUGHT, is_share

FIGURES = "0123456789"
MOST_FIGURES = 600
MOST_WORDS = 60


def share_text(share):
    """The SHARE's text."""
    top, bottom = share
    return str(top) if bottom == 1 else f"{top}/{bottom}"


def shares_text(shares):
    """The SHAREs' texts, parted by single blanks."""
    return " ".join([share_text(share) for share in shares])


def read_shares(thing):
    """The tuple of the SHAREs whose text the plain thing is; else NoText."""
    if not isinstance(thing, str) or len(words_of(thing)) > MOST_WORDS:
        raise NoText("text", 0)
    shares = []
    for k, word in enumerate(words_of(thing)):
        share = read_share(word)
        if share is None:
            raise NoText("share", k)
        shares.append(share)
    return tuple(shares)


def read_poly(thing):
    """The POLY whose text the plain thing is; else NoText."""
    shares = read_shares(thing)
    if shares != () and shares[-1] == NOUGHT:
        raise NoText("nought", len(shares) - 1)
    return shares


def words_of(text):
    """What the text's blanks part; the text without signs has no word."""
    return [] if text == "" else text.split(" ")


def read_share(word):
    """The SHARE of at most six hundred figures above and beneath whose text the word is, or None."""
    top, stroke, bottom = word.partition("/")
    pair = (read_whole(top), 1 if stroke == "" else read_whole(bottom))
    # Some pairs can be written in several ways, of which one alone is the SHARE's text.
    return pair if is_share(pair) and share_text(pair) == word else None


def read_whole(text):
    """The whole number told by at most six hundred figures, perhaps a - ahead, or None."""
    figures = text.removeprefix("-")
    # Python itself would also read signs of other kinds, and refuse a great many figures.
    if not 1 <= len(figures) <= MOST_FIGURES or not all([sign in FIGURES for sign in figures]):
        return None
    return int(text)
