"""A desk: it keeps POLYs by names, is told rows, and answers with texts."""

from powerrests.errors import NoLine, NoPaper, NoText
from powerrests.polys import poly_back, poly_moved, poly_plus, poly_step, value_at
from powerrests.row import number_at
from powerrests.signjudge import lets_signed
from powerrests.signs import signed, signed_below
from powerrests.sumjudge import lets_summed
from powerrests.sums import sum_below, summed
from powerrests.tables import turns_of
from powerrests.texts import read_poly, read_share, share_text, shares_text

LETTERS = "abcdefghijklmnopqrstuvwxyz"
MOST_LETTERS = 8
MOST_NAMES = 20
MOST_SHARES = 13
# The first numbers with more figures than a row may write, and than are kept.
TOO_LONG_TO_WRITE = 10 ** 30
TOO_LONG_TO_KEEP = 10 ** 50 * 10 ** 50
LAST_N = 12
MOST_MANY = 10 ** 30

# What stands behind the beginning of each row but that of let, word by word.
FORMS = {
    "drop": ("kept name",),
    "names": (),
    "show": ("kept",),
    "at": ("kept", "share"),
    "sum": ("kept", "many"),
    "signed": ("kept", "many"),
    "summed": ("kept", "name"),
    "paired": ("kept", "name"),
    "step": ("kept", "name"),
    "back": ("kept", "name"),
    "moved": ("kept", "share", "name"),
    "plus": ("kept", "kept", "name"),
    "judge sum": ("kept", "kept"),
    "judge signed": ("kept", "kept"),
    "row": ("n",),
    "turns": ("n",),
}
# The rows that have a POLY kept by the last thing that they tell.
KEEPING = ("let", "summed", "paired", "step", "back", "moved", "plus")


class Desk:
    """A desk, with no POLY kept at first."""

    def __init__(self):
        self.kept = {}

    def say(self, row):
        """The answer to the row; else NoLine."""
        line = read_line(row, self.kept)
        if line is None:
            raise NoLine(row)
        beginning, things = line
        if beginning == "names":
            return " ".join(sorted(self.kept)) if self.kept else "-"
        if beginning == "drop":
            del self.kept[things[0]]
            return "ok"
        if beginning in KEEPING:
            return self.keep(things[-1], poly_made(beginning, things))
        return answer_to(beginning, things)

    def keep(self, name, poly):
        """ok, and the POLY is kept by the name; or full, and nothing is changed."""
        is_new = name not in self.kept
        if not may_be_kept(poly) or (is_new and len(self.kept) == MOST_NAMES):
            return "full"
        self.kept[name] = poly
        return "ok"


def read_line(row, kept):
    """The row's beginning and the list of things that its other words tell, or None where it is no row."""
    if not isinstance(row, str):
        return None
    words = row.split(" ")
    if "" in words:
        return None
    if words[0] == "let":
        return read_let(words[1:])
    first = 2 if words[0] == "judge" else 1
    beginning = " ".join(words[:first])
    if beginning not in FORMS or len(FORMS[beginning]) != len(words[first:]):
        return None
    things = [read_word(kind, word, kept) for kind, word in zip(FORMS[beginning], words[first:])]
    return None if None in things else (beginning, things)


def read_let(words):
    """As read_line tells it, of the words behind let."""
    if words == [] or not is_name(words[0]):
        return None
    try:
        poly = read_poly(" ".join(words[1:]))
    except NoText:
        return None
    if not all([is_shorter(share, TOO_LONG_TO_WRITE) for share in poly]):
        return None
    return ("let", [poly, words[0]])


def read_word(kind, word, kept):
    """What the word tells, or None where it is none of this kind."""
    if kind == "kept":
        return kept.get(word)
    if kind == "kept name":
        return word if word in kept else None
    if kind == "name":
        return word if is_name(word) else None
    share = read_share(word)
    if share is None:
        return None
    if kind == "share":
        return share if is_shorter(share, TOO_LONG_TO_WRITE) else None
    top, bottom = share
    last = LAST_N if kind == "n" else MOST_MANY
    return top if bottom == 1 and 0 <= top <= last else None


def is_name(word):
    """Whether the word is a text of one to eight small letters."""
    return 1 <= len(word) <= MOST_LETTERS and all([sign in LETTERS for sign in word])


def is_shorter(share, first):
    """Whether the SHARE's top and bottom have fewer figures than the first number that has too many."""
    top, bottom = share
    return abs(top) < first and bottom < first


def may_be_kept(poly):
    """Whether the POLY is short enough to be kept."""
    return len(poly) <= MOST_SHARES and all([is_shorter(share, TOO_LONG_TO_KEEP) for share in poly])


def poly_made(beginning, things):
    """The POLY that the row would have kept."""
    poly = things[0]
    if beginning == "summed":
        return summed(poly)
    if beginning == "paired":
        return signed(poly)
    if beginning == "step":
        return poly_step(poly)
    if beginning == "back":
        return poly_back(poly)
    if beginning == "moved":
        return poly_moved(poly, things[1])
    if beginning == "plus":
        return poly_plus(poly, things[1])
    return poly


def answer_to(beginning, things):
    """The answer to a row that changes nothing."""
    if beginning == "row":
        return share_text(number_at(things[0]))
    if beginning == "turns":
        return str(turns_of(things[0]))
    poly = things[0]
    if beginning == "show":
        return "-" if poly == () else shares_text(poly)
    if beginning == "at":
        return share_text(value_at(poly, things[1]))
    if beginning == "sum":
        return share_text(sum_below(poly, things[1]))
    if beginning == "signed":
        return share_text(signed_below(poly, things[1]))
    return verdict_of(beginning, poly, things[1])


def verdict_of(beginning, poly, paper):
    """so where the judge lets the paper by; else the word and the place with which it refuses it."""
    try:
        if beginning == "judge sum":
            lets_summed(poly, paper)
        else:
            lets_signed(poly, paper)
    except NoPaper as e:
        return f"{e.word} {e.place}"
    return "so"
