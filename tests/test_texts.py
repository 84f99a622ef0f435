"""[36]: texts of SHAREs and POLYs, written and read."""

import unittest

from powerrests.errors import NoText
from powerrests.texts import read_poly, read_shares, share_text, shares_text
from tests.helping import ODD_THINGS, THIRTY, Case, Odd, deep, poly

LONGEST = 10 ** 600 - 1
NO_TEXTS = tuple(thing for thing in ODD_THINGS if not isinstance(thing, str)) + (
    0, 1, -1, THIRTY, 10 ** 3999, (), (1, 2), ((1, 2),), ["1"], ["1", "2"], ("1",), {"1": 2}, deep(39),
)
# Words that write no SHARE, or no SHARE so.
WRONG_WORDS = (
    "2/4", "-2/4", "3/3", "3/1", "-3/1", "0/1", "0/2", "-0", "-0/1", "-0/3", "00", "01", "-01", "007", "1/02", "01/2",
    "+1", "+0", "1/+2", "1/-2", "-1/-2", "1/0", "0/0", "1/00", "/", "-", "-/", "1/", "-1/", "/2", "-/2", "//", "1//2",
    "1/2/", "/1/2", "1/2/3", "--1", "---1", "1-", "1-2", "1/2-", "1/--2", "-_1", "a", "x", "one",
    "1a", "a1", "1/a", "a/2", "1_0", "1_000", "_1", "1_", "1/1_1", "0x1", "0b1", "0o7", "1e5", "1E5", "1j", "1L",
    "1.5", ".5", "1.", "1,5", "1,", ",1", "1/2,", "(1", "1)", "(1,2)", "[1]", "1:2", "1\\2", "1|2", "~", "!", "#", "1!",
    "1\"", "'1'", "nan", "inf", "None", "True", "1*2", "1**2", "=1", "1=", "<1", "1;", "{1}", "&", "@1", "$1", "^1",
    "`", "1" + "0" * 600, "-1" + "0" * 600, "1/1" + "0" * 600, "-1/1" + "0" * 600, "0" * 601, "9" * 601,
    "9" * 601 + "/2", "7" * 5000, "-" + "7" * 5000, "1/" + "7" * 5000, "7" * 5000 + "/" + "3" * 5000, "0" * 5000,
    "1" * 90000, "-" * 700,
)


def some_shares():
    odd = Odd(36)
    few = [(0, 1), (1, 1), (-1, 1), (1, 2), (-1, 2), (10, 1), (-10, 3), (100, 7), (7, 100), (THIRTY, 1), (-1, THIRTY)]
    longest = [(LONGEST, 1), (-LONGEST, 1), (1, LONGEST), (LONGEST - 1, LONGEST), (1 - LONGEST, LONGEST),
               (LONGEST, LONGEST - 1), (10 ** 599, 3), (-3, 10 ** 599)]
    return few + longest + list(odd.pairs(40, 1)) + list(odd.pairs(40, 30)) + list(odd.pairs(10, 600))


def by_hand(pair):
    return f"{pair[0]}" if pair[1] == 1 else f"{pair[0]}/{pair[1]}"


class Writing(Case):
    def test_one(self):
        for pair in some_shares():
            self.tells(by_hand(pair), share_text, pair)

    def test_written_out(self):
        for pair, due in (((0, 1), "0"), ((1, 1), "1"), ((-1, 1), "-1"), ((1, 2), "1/2"), ((-691, 2730), "-691/2730"),
                          ((10 ** 40, 1), "1" + "0" * 40), ((-1, 10 ** 599), "-1/1" + "0" * 599)):
            self.tells(due, share_text, pair)
            self.tells(due, shares_text, (pair,))

    def test_several(self):
        self.tells("", shares_text, ())
        self.tells("0", shares_text, ((0, 1),))
        self.tells("0 0", shares_text, ((0, 1), (0, 1)))
        self.tells("1 -1/2 1/6 0 -1/30", shares_text, ((1, 1), (-1, 2), (1, 6), (0, 1), (-1, 30)))
        for many in (2, 7, 59, 60):
            pairs = Odd(many).pairs(many, 30)
            self.tells(" ".join(map(by_hand, pairs)), shares_text, pairs)


class Reading(Case):
    def refused(self, word, place, thing, functions=(read_shares, read_poly)):
        for function in functions:
            self.refuses(NoText, {"word": word, "place": place}, function, thing)

    def test_there_and_back(self):
        for pair in some_shares():
            self.tells((pair,), read_shares, by_hand(pair))
            self.tells((pair,), read_shares, share_text(pair))
        for many in range(61):
            for figures in (1, 12) + (600,) * (many in (0, 1, 2, 60)):
                pairs = Odd(many).pairs(many, figures)
                self.tells(pairs, read_shares, shares_text(pairs))

    def test_polys_there_and_back(self):
        for many in range(61):
            for figures in (1, 12) + (600,) * (many in (0, 1, 2, 60)):
                one = Odd(many).poly(many, figures)
                self.tells(one, read_poly, shares_text(one))

    def test_written_out(self):
        for text, due in (("", ()), ("5", poly(5)), ("-5/2", ((-5, 2),)), ("0 1", ((0, 1), (1, 1))),
                          ("1 -1/2 1/6 0 -1/30", ((1, 1), (-1, 2), (1, 6), (0, 1), (-1, 30)))):
            self.tells(due, read_shares, text)
            self.tells(due, read_poly, text)
        self.tells(((0, 1),), read_shares, "0")
        self.tells(((1, 2), (0, 1)), read_shares, "1/2 0")
        self.tells(((0, 1),) * 60, read_shares, " ".join(["0"] * 60))

    def test_no_texts(self):
        for thing in NO_TEXTS:
            self.refused("text", 0, thing)

    def test_too_many_words(self):
        for many in (61, 62, 100, 5000, 40000):
            for word in ("0", "1", "-1/2", "x", "2/4", ""):
                self.refused("text", 0, " ".join([word] * many))
        right = " ".join(["1/2"] * 60)
        for thing in (right + " 0", right + " x", right + " ", " " + right, "x " + right, right.replace(" ", "  ", 1)):
            self.refused("text", 0, thing)
        self.refused("share", 3, right.replace("1/2", "x").replace("x", "1/2", 3))

    def test_a_wrong_word(self):
        for wrong in WRONG_WORDS:
            self.refused("share", 0, wrong)
            self.refused("share", 0, wrong + " 1/2")
            self.refused("share", 1, "1/2 " + wrong)
            self.refused("share", 2, f"0 -3 {wrong} 1/2 {wrong} 0")

    def test_a_wrong_word_at_each_place(self):
        words = [share_text(pair) for pair in Odd(60).pairs(60, 12)]
        for k in range(60):
            for wrong in ("", "x", "2/4", "9" * 601):
                self.refused("share", k, " ".join(words[:k] + [wrong] + words[k + 1:]))
                # The words behind the first wrong one don't count, right or not.
                self.refused("share", k, " ".join(words[:k] + [wrong] * (60 - k)))

    def test_words_without_signs(self):
        for text, k in ((" ", 0), ("  ", 0), (" 1", 0), ("1 ", 1), ("1  2", 1), ("1 2 ", 2), (" 1 2", 0), ("1 2  3", 2),
                        (" " * 59, 0), ("0  0", 1), ("1/2  1/3", 1)):
            self.refused("share", k, text)

    def test_blanks_within(self):
        for text, k in (("1 / 2", 1), ("1/ 2", 0), ("1 /2", 1), ("- 1", 0)):
            self.refused("share", k, text)

    def test_figures(self):
        self.tells(((LONGEST, 1),), read_shares, "9" * 600)
        self.tells(((-LONGEST, 1),), read_shares, "-" + "9" * 600)
        self.tells(((2, LONGEST),), read_shares, "2/" + "9" * 600)
        self.tells(((-10 ** 599, 3),), read_shares, "-1" + "0" * 599 + "/3")
        self.refused("share", 0, "1" + "9" * 600)
        self.refused("share", 0, "-1" + "9" * 600)
        self.refused("share", 0, "2/1" + "9" * 600)
        self.refused("share", 1, "1 " + "0" * 600)

    def test_nought_at_the_end(self):
        for many in (1, 2, 13, 59, 60):
            text = shares_text(Odd(many).poly(many - 1, 12) + ((0, 1),))
            self.refused("nought", many - 1, text, (read_poly,))
            self.refused("nought", many - 1, " ".join(["0"] * many), (read_poly,))
            self.assertEqual(len(self.told(read_shares, text)), many)

    def test_nought_goes_behind_the_others(self):
        self.refused("share", 0, "x 0")
        self.refused("share", 1, "1 2/4 0")
        self.refused("share", 2, "1 0 -0")
        self.refused("text", 0, " ".join(["0"] * 61))


if __name__ == "__main__":
    unittest.main()
