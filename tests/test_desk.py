"""[40]: the desk."""

import unittest
from fractions import Fraction

from powerrests.desk import Desk
from powerrests.errors import NoLine
from powerrests.polys import poly_back, poly_moved, poly_plus, poly_step
from tests.helping import (
    EVEN, GREAT, ODD_THINGS, THIRTY, TURNS, Case, Odd, due_at, number_of, poly, share, signed_by_hand,
    summed_by_hand, value)

# Words that write no SHARE so, of whatever figures.
NO_SHARES = (
    "2/4", "3/1", "0/1", "-0", "01", "00", "+1", "1/-2", "1/0", "/", "-", "1/", "/2", "1/2/3", "--1", "x", "1a", "1.5",
    "1_0", "1,", "1e3", "7" * 700, "7" * 5000, "1/" + "7" * 5000, "0" * 31, "~",
)
# SHAREs' texts with more than thirty figures above or beneath.
TOO_LONG = ("1" + "0" * 30, "-1" + "0" * 30, "9" * 31, "1/1" + "0" * 30, "-2/" + "9" * 31, "1/" + "3" * 600, "7" * 600)
NO_NAMES = ("abcdefghi", "abcdefghijkl", "z" * 1000, "A", "Ab", "aB", "a1", "1", "1a", "a_b", "a-b", "-", "a/b",
            "a.", "!", "~a", "a,b", "'a'", "(a)")
NO_NUMBERS = ("-1", "-12", "01", "00", "-0", "+1", "1/2", "-1/2", "2/1", "12.", "1_0", "x", "a", "-", "7" * 700,
              "7" * 5000, "0" * 5000, "-" + "7" * 5000)
# Rows of each form but let, for the desk that few_kept makes.
ROWS = ("drop a", "names", "show a", "at a 1/2", "sum a 5", "signed a 5", "summed a c", "paired a c", "step a c",
        "back a c", "moved a 1/2 c", "plus a b c", "judge sum a b", "judge signed a b", "row 3", "turns 3")


def text(number):
    """The text of a Fraction or a SHARE, made without the program."""
    number = Fraction(*number) if isinstance(number, tuple) else Fraction(number)
    return f"{number.numerator}" if number.denominator == 1 else f"{number.numerator}/{number.denominator}"


def texts(one):
    return " ".join(text(pair) for pair in one)


def let(name, one):
    return " ".join(["let", name] + [text(pair) for pair in one])


class DeskCase(Case):
    def says(self, desk, row, due):
        answer = desk.say(row)
        self.assertIs(type(answer), str)
        if answer != due:
            self.fail(f"{row!r:.300}: told {answer!r:.300}, due {due!r:.300}")

    def kept(self, desk):
        """What the desk keeps, by its own rows."""
        names = desk.say("names")
        return {} if names == "-" else {name: desk.say(f"show {name}") for name in names.split(" ")}

    def unchanged(self, desk, row, due):
        before = self.kept(desk)
        self.says(desk, row, due)
        self.says(desk, row, due)
        self.assertEqual(self.kept(desk), before)

    def refused(self, desk, row):
        before = self.kept(desk)
        for _ in range(2):
            with self.assertRaises(NoLine, msg=f"{row!r:.300}") as caught:
                desk.say(row)
            self.assertIs(type(caught.exception), NoLine)
            self.assertIs(caught.exception.row, row)
        self.assertEqual(self.kept(desk), before)

    def twenty_kept(self, shares):
        """A desk that keeps the same POLY by the names a to t."""
        desk = Desk()
        for name in "abcdefghijklmnopqrst":
            self.says(desk, f"let {name} {shares}", "ok")
        return desk

    def few_kept(self):
        desk = Desk()
        self.says(desk, "let a 1 -1/2 0 3", "ok")
        self.says(desk, "let b 0 1", "ok")
        self.says(desk, "let none", "ok")
        return desk


class Keeping(DeskCase):
    def test_a_new_desk(self):
        desk = Desk()
        self.unchanged(desk, "names", "-")
        for row in ("show a", "drop a", "sum a 1", "step a a"):
            self.refused(desk, row)

    def test_let_show_names_drop(self):
        desk = Desk()
        self.says(desk, "let b 1/2 0 -3", "ok")
        self.says(desk, "names", "b")
        self.says(desk, "let abcdefgh", "ok")
        self.says(desk, "let a 7", "ok")
        self.unchanged(desk, "names", "a abcdefgh b")
        self.unchanged(desk, "show b", "1/2 0 -3")
        self.unchanged(desk, "show abcdefgh", "-")
        self.unchanged(desk, "show a", "7")
        self.says(desk, "let b 5", "ok")
        self.says(desk, "show b", "5")
        self.says(desk, "names", "a abcdefgh b")
        self.says(desk, "drop abcdefgh", "ok")
        self.says(desk, "names", "a b")
        self.refused(desk, "drop abcdefgh")
        self.refused(desk, "show abcdefgh")
        self.says(desk, "drop a", "ok")
        self.says(desk, "let b", "ok")
        self.says(desk, "show b", "-")
        self.says(desk, "drop b", "ok")
        self.says(desk, "names", "-")

    def test_names_rise(self):
        desk = Desk()
        names = ["b", "a", "ab", "aa", "zzzzzzzz", "z", "ba", "names", "let", "drop", "abc", "y"]
        for k, name in enumerate(names):
            self.says(desk, f"let {name} {k + 1}", "ok")
            self.says(desk, "names", " ".join(sorted(names[:k + 1])))
        for k, name in enumerate(names):
            self.says(desk, f"show {name}", str(k + 1))

    def test_names_that_are_words_of_rows(self):
        desk = Desk()
        words = ("let", "drop", "names", "show", "at", "sum", "signed", "summed", "paired", "step", "back", "moved",
                 "plus", "judge", "row", "turns", "ok", "full", "so")
        for word in words:
            self.says(desk, f"let {word} 0 1", "ok")
        self.says(desk, "names", " ".join(sorted(words)))
        self.says(desk, "sum sum 5", "10")
        self.says(desk, "signed signed 5", "2")
        self.says(desk, "at at 1/2", "1/2")
        self.says(desk, "summed summed summed", "ok")
        self.says(desk, "show summed", "0 -1/2 1/2")
        self.says(desk, "judge sum sum summed", "so")
        self.says(desk, "judge sum judge judge", "step 0")
        self.says(desk, "judge signed signed signed", "pair 0")
        self.says(desk, "plus plus plus plus", "ok")
        self.says(desk, "show plus", "0 2")
        self.says(desk, "moved moved 1 moved", "ok")
        self.says(desk, "show moved", "1 1")
        self.says(desk, "show show", "0 1")
        self.says(desk, "drop drop", "ok")
        self.refused(desk, "drop drop")
        self.refused(desk, "judge judge judge")
        self.refused(desk, "names names")
        self.refused(desk, "row row")
        self.says(desk, "row 2", "1/6")

    def test_let_there_and_back(self):
        odd = Odd(40)
        desk = Desk()
        for many in range(14):
            for figures in (1, 12, 30):
                one = odd.poly(many, figures)
                self.says(desk, let("p", one), "ok")
                self.says(desk, "show p", texts(one) or "-")
        for one in (poly(THIRTY), poly(-THIRTY), ((1, THIRTY),), ((-THIRTY, THIRTY - 1),), poly(*[0] * 12, 1)):
            self.says(desk, let("p", one), "ok")
            self.says(desk, "show p", texts(one))

    def test_two_desks(self):
        one, other = Desk(), Desk()
        self.says(one, "let a 1", "ok")
        self.says(other, "names", "-")
        self.refused(other, "show a")
        self.says(other, "let a 2", "ok")
        self.says(other, "let b 3", "ok")
        self.says(one, "show a", "1")
        self.says(one, "names", "a")
        self.says(one, "drop a", "ok")
        self.says(other, "names", "a b")
        self.says(other, "show a", "2")
        self.unchanged(self.twenty_kept("1"), "let new 1", "full")
        self.says(other, "let new 1", "ok")
        self.says(Desk(), "names", "-")


class Answers(DeskCase):
    def some_polys(self):
        odd = Odd(41)
        few = [(), poly(3), poly(0, 1), poly(1, Fraction(-1, 2), 0, 3)]
        return few + [odd.poly(7, 5), odd.poly(13, 12), odd.poly(13, 30)]

    def test_at(self):
        odd = Odd(42)
        for one in self.some_polys():
            desk = Desk()
            self.says(desk, let("p", one), "ok")
            for x in [(0, 1), (1, 1), (-1, 1), (1, 2), (THIRTY, 1), (-THIRTY, THIRTY - 1), odd.pair(30)]:
                self.unchanged(desk, f"at p {text(x)}", text(value(one, number_of(x))))

    def test_sums(self):
        for one in self.some_polys():
            desk = Desk()
            self.says(desk, let("p", one), "ok")
            total = signed = Fraction(0)
            for many in range(8):
                self.unchanged(desk, f"sum p {many}", text(total))
                self.unchanged(desk, f"signed p {many}", text(signed))
                total += value(one, many)
                signed += (-1) ** many * value(one, many)
            summed, pair = summed_by_hand(one), signed_by_hand(one)
            for many in (12, 13, THIRTY, GREAT - 1, GREAT):
                self.unchanged(desk, f"sum p {many}", text(value(summed, many)))
                due = value(pair, 0) - (-1) ** (many % 2) * value(pair, many)
                self.unchanged(desk, f"signed p {many}", text(due))

    def test_kept_ones(self):
        odd = Odd(43)
        for one in self.some_polys()[:5]:
            other, moved_by = odd.poly(5, 5), odd.pair(3)
            for row, due in (("summed p q", summed_by_hand(one)), ("paired p q", signed_by_hand(one)),
                             ("step p q", poly_step(one)), ("back p q", poly_back(one)),
                             (f"moved p {text(moved_by)} q", poly_moved(one, moved_by)),
                             ("plus p o q", poly_plus(one, other)), ("plus o p q", poly_plus(one, other))):
                desk = Desk()
                self.says(desk, let("p", one), "ok")
                self.says(desk, let("o", other), "ok")
                self.says(desk, row, "ok")
                self.assertEqual(self.kept(desk), {"o": texts(other), "p": texts(one) or "-", "q": texts(due) or "-"})
                self.says(desk, row, "ok")
                self.says(desk, let("q", other), "ok")
                self.says(desk, row, "ok")
                self.assertEqual(self.kept(desk), {"o": texts(other), "p": texts(one) or "-", "q": texts(due) or "-"})

    def test_names_alike_in_a_row(self):
        one = poly(1, Fraction(-1, 2), 0, 3)
        for row, due in (("summed p p", summed_by_hand(one)), ("paired p p", signed_by_hand(one)),
                         ("step p p", poly_step(one)), ("back p p", poly_back(one)),
                         ("moved p -2/3 p", poly_moved(one, (-2, 3))), ("plus p p p", poly_plus(one, one)),
                         ("plus p q p", poly_plus(one, poly(0, 7))), ("plus q p q", None)):
            desk = Desk()
            self.says(desk, let("p", one), "ok")
            self.says(desk, "let q 0 7", "ok")
            self.says(desk, row, "ok")
            if due is None:
                self.assertEqual(self.kept(desk), {"p": texts(one), "q": texts(poly_plus(one, poly(0, 7)))})
            else:
                self.assertEqual(self.kept(desk), {"p": texts(due), "q": "0 7"})

    def test_written_out(self):
        desk = Desk()
        for row, due in (("let sq 0 0 1", "ok"), ("summed sq s", "ok"), ("show s", "0 1/6 -1/2 1/3"),
                         ("sum sq 5", "30"), ("at s 5", "30"), ("signed sq 4", "-6"), ("paired sq t", "ok"),
                         ("show t", "0 -1/2 1/2"), ("step sq u", "ok"), ("show u", "1 2"), ("back sq u", "ok"),
                         ("show u", "-1 2"), ("moved sq -1/2 v", "ok"), ("show v", "1/4 -1 1"), ("plus u v w", "ok"),
                         ("show w", "-3/4 1 1"), ("at w -1/3", "-35/36"), ("names", "s sq t u v w"),
                         ("drop u", "ok"), ("names", "s sq t v w")):
            self.says(desk, row, due)

    def test_a_sum_that_is_nought(self):
        desk = Desk()
        self.says(desk, "let a 1 2", "ok")
        self.says(desk, "let b -1 -2", "ok")
        self.says(desk, "plus a b c", "ok")
        self.says(desk, "show c", "-")
        self.says(desk, "at c 7", "0")
        self.says(desk, "sum c 7", "0")
        self.says(desk, "summed c d", "ok")
        self.says(desk, "show d", "-")

    def test_judge(self):
        lets = ("let q 0 2", "let p 0 -1 1", "let less 1 -1 1", "let twice 0 -2 2", "let high 0 0 0 1", "let none",
                "let h -1/2 1", "let hh -1 2", "let x 0 0 0 0 1")
        for row, due in (("judge sum q p", "so"), ("judge sum q less", "nought 0"), ("judge sum q twice", "step 1"),
                         ("judge sum q high", "step 0"), ("judge sum q none", "step 1"), ("judge sum none none", "so"),
                         ("judge sum none p", "step 1"), ("judge sum none x", "step 0"), ("judge sum p q", "step 0"),
                         ("judge signed q h", "so"), ("judge signed q hh", "pair 1"), ("judge signed q less", "pair 0"),
                         ("judge signed q none", "pair 1"), ("judge signed none none", "so"),
                         ("judge signed q p", "pair 1"), ("judge signed x none", "pair 4"),
                         ("judge sum x none", "step 4")):
            desk = Desk()
            for line in lets:
                self.says(desk, line, "ok")
            self.unchanged(desk, row, due)

    def test_judge_of_what_was_kept(self):
        odd = Odd(44)
        for many in range(1, 13):
            desk = Desk()
            self.says(desk, let("p", odd.poly(many, 3)), "ok")
            self.says(desk, "summed p s", "ok")
            self.says(desk, "paired p t", "ok")
            self.unchanged(desk, "judge sum p s", "so")
            self.unchanged(desk, "judge signed p t", "so")
            self.says(desk, f"let more {'0 ' * many}1", "ok")
            self.says(desk, "plus s more s", "ok")
            self.says(desk, "plus t more t", "ok")
            self.unchanged(desk, "judge sum p s", "step 0")
            self.unchanged(desk, "judge signed p t", "pair 0")

    def test_row_and_turns(self):
        desk = Desk()
        for n in range(13):
            self.unchanged(desk, f"row {n}", text(due_at(n)))
            self.unchanged(desk, f"turns {n}", str(TURNS[n]))
        self.says(desk, "row 12", "-691/2730")
        self.says(desk, "row 1", "-1/2")
        self.says(desk, "turns 12", "2702765")
        self.assertEqual(share(number_of(EVEN[6])), (-691, 2730))

    def test_answers_of_many_figures(self):
        odd = Odd(45)
        desk = Desk()
        parts = [odd.poly(13, 30) for _ in range(3)]
        one = parts[0]
        self.says(desk, let("a", parts[0]), "ok")
        for part in parts[1:]:
            self.says(desk, let("b", part), "ok")
            self.says(desk, "plus a b a", "ok")
            one = tuple(share(number_of(left) + number_of(right)) for left, right in zip(one, part))
        x = odd.pair(30)
        summed, pair = summed_by_hand(one), signed_by_hand(one)
        for row, due in ((f"at a {text(x)}", value(one, number_of(x))), (f"sum a {GREAT}", value(summed, GREAT)),
                         (f"sum a {THIRTY}", value(summed, THIRTY)),
                         (f"signed a {GREAT}", value(pair, 0) - value(pair, GREAT)),
                         (f"signed a {THIRTY}", value(pair, 0) + value(pair, THIRTY))):
            self.assertGreater(len(text(due)), 1200)
            self.unchanged(desk, row, text(due))


class Full(DeskCase):
    def test_more_than_thirteen(self):
        desk = Desk()
        self.says(desk, let("a", poly(*[1] * 13)), "ok")
        for many in (14, 15, 24, 59, 60):
            for name in ("a", "b"):
                self.unchanged(desk, let(name, poly(*[1] * many)), "full")
                self.unchanged(desk, let(name, poly(*[0] * (many - 1), Fraction(1, 2))), "full")
        for row in ("summed a b", "summed a a"):
            self.unchanged(desk, row, "full")
        for row in ("paired a b", "step a c", "back a d", "plus a a e", "moved a 1 f"):
            self.says(desk, row, "ok")
        self.says(desk, "summed c g", "ok")
        self.says(desk, "show c", texts(poly_step(poly(*[1] * 13))))

    def test_more_than_a_hundred_figures(self):
        for power, figures in ((4, 25), (5, 20), (10, 10)):
            just, over = 10 ** figures - 1, 10 ** figures
            for kept, full in ((f"{just}", f"{over}"), (f"-{just}", f"-{over}"), (f"1/{just}", f"1/{over}"),
                               (f"-1/{just}", f"-1/{over}")):
                desk = Desk()
                self.says(desk, let("p", poly(*[0] * power, 1)), "ok")
                self.says(desk, "let q 5", "ok")
                for name in ("q", "r"):
                    self.unchanged(desk, f"moved p {full} {name}", "full")
                self.unchanged(desk, f"moved p {full} p", "full")
                for name in ("q", "r", "p"):
                    self.says(desk, f"moved p {kept} {name}", "ok")
                due = poly_moved(poly(*[0] * power, 1), share(Fraction(kept)))
                self.assertEqual(self.kept(desk), {"p": texts(due), "q": texts(due), "r": texts(due)})

    def test_one_number_of_a_hundred_and_one_figures(self):
        # A bottom of a hundred figures is kept, one of a hundred and one isn't, wherever it stands.
        for at in range(4):
            desk = Desk()
            for name, bottom in (("a", 2 ** 99), ("b", 3 ** 62), ("c", 5 ** 42), ("d", 7 ** 13), ("e", 7 ** 14)):
                self.says(desk, let(name, poly(*[2] * at, Fraction(1, bottom), *[3] * (3 - at))), "ok")
            self.says(desk, "plus a b s", "ok")
            self.says(desk, "plus s c s", "ok")
            self.unchanged(desk, "plus s e t", "full")
            self.unchanged(desk, "plus s e s", "full")
            self.says(desk, "plus s d t", "ok")
            self.assertTrue(any(len(word.partition("/")[2]) == 100 for word in desk.say("show t").split(" ")))

    def test_a_twenty_first_name(self):
        for row in ("let new", "let new 1", "summed a new", "paired a new", "step a new", "back a new",
                    "moved a 1 new", "plus a a new", "let z 1 2"):
            self.unchanged(self.twenty_kept("0 1"), row, "full")
        desk = self.twenty_kept("0 1")
        for row in ("let t 5", "let a", "summed b s", "paired b a", "step b a", "back b a", "moved b 1 a",
                    "plus b b a"):
            self.says(desk, row, "ok")
        self.says(desk, "show t", "5")
        self.says(desk, "show a", "0 2")
        self.says(desk, "drop b", "ok")
        self.says(desk, "let new 1", "ok")
        self.unchanged(desk, "let b 1", "full")
        self.says(desk, "names", "a c d e f g h i j k l m n new o p q r s t")

    def test_a_full_desk_still_answers(self):
        desk = self.twenty_kept("2")
        self.says(desk, "at t 3", "2")
        self.says(desk, "sum b 4", "8")
        self.says(desk, "judge sum a a", "nought 0")
        self.refused(desk, "let new 0")
        self.refused(desk, "summed new newer")


class NoLines(DeskCase):
    def is_none(self, row):
        self.refused(self.few_kept(), row)

    def test_each_form_is_right(self):
        for row in ROWS:
            desk = self.few_kept()
            self.assertIs(type(desk.say(row)), str)

    def test_words_more_and_fewer(self):
        for row in ROWS:
            words = row.split(" ")
            for more in ("a", "b", "c", "1", "0", "1/2", "x", "sum", "names"):
                self.is_none(f"{row} {more}")
                self.is_none(f"{more} {row}")
            for k in range(len(words)):
                self.is_none(" ".join(words[:k] + words[k + 1:]))
                self.is_none(" ".join(words[:k + 1] + words[k:]))
        self.is_none("let")

    def test_blanks(self):
        for row in ROWS + ("let a", "let a 1 2", "let c", "let c 1/2"):
            for wrong in (" " + row, row + " ", "  " + row, row + "  ", " " + row + " ", row + "\t", row + "\n"):
                self.is_none(wrong)
            for k, sign in enumerate(row):
                if sign == " ":
                    self.is_none(row[:k] + " " + row[k:])
                    self.is_none(row[:k] + "_" + row[k + 1:])
                    if row in ROWS:
                        self.is_none(row[:k] + row[k + 1:])
        for wrong in ("", " ", "  ", " " * 50, "let ", "let  1", "let a  1"):
            self.is_none(wrong)

    def test_other_words(self):
        for row in ROWS + ("let a 1",):
            word, _, rest = row.partition(" ")
            for other in (word.upper(), word.title(), word + "s", word[:-1], word[1:], "x", "say", "1", "-"):
                self.is_none(f"{other} {rest}" if rest else other)
        for row in ("judge", "judge a b", "judge sum", "judge sum a", "judge plus a b", "judge sums a b",
                    "judge summed a b", "judge row a b", "judge Sum a b", "sum judge a b", "judge judge sum a b",
                    "judge sum a b a", "judge sum sum a b", "ok", "full", "so", "-", "a", "show", "names a",
                    "row", "turns", "row a", "turns b", "x" * 100000, "1 " * 40000 + "1"):
            self.is_none(row)

    def test_names(self):
        for right in ("a", "z", "abcdefgh", "zzzzzzzz", "qwxyz"):
            self.says(self.few_kept(), f"let {right} 1", "ok")
            self.says(self.few_kept(), f"summed a {right}", "ok")
        for wrong in NO_NAMES:
            for row in (f"let {wrong}", f"let {wrong} 1", f"summed a {wrong}", f"paired a {wrong}", f"step a {wrong}",
                        f"back a {wrong}", f"moved a 1 {wrong}", f"plus a b {wrong}"):
                self.is_none(row)

    def test_names_that_are_not_kept(self):
        for wrong in NO_NAMES + ("c", "x", "aa", "ab", "non", "nones", "abcdefgh", "sum", "names"):
            for row in (f"drop {wrong}", f"show {wrong}", f"at {wrong} 1", f"sum {wrong} 1", f"signed {wrong} 1",
                        f"summed {wrong} a", f"paired {wrong} a", f"step {wrong} a", f"back {wrong} a",
                        f"moved {wrong} 1 a", f"plus {wrong} a a", f"plus a {wrong} a", f"plus {wrong} {wrong} a",
                        f"judge sum {wrong} a", f"judge sum a {wrong}", f"judge signed {wrong} a",
                        f"judge signed a {wrong}", f"summed {wrong} {wrong}"):
                self.is_none(row)

    def test_shares(self):
        for wrong in NO_SHARES + TOO_LONG:
            for row in (f"at a {wrong}", f"moved a {wrong} c", f"let a {wrong}", f"let a {wrong} 1",
                        f"let a 1 {wrong} 1", f"let c 1 1/2 {wrong}", f"let a {'1 ' * 59}{wrong}",
                        f"let a {'1 ' * 20}{wrong} 1"):
                self.is_none(row)
        for row in ("at a b", "moved a b c", "moved a c 1", "at 1 a", "let 1 a", "let a b", "let a a"):
            self.is_none(row)
        desk = self.few_kept()
        for right in ("9" * 30, "-" + "9" * 30, "1/" + "9" * 30, "-1" + "0" * 29 + "/" + "9" * 30, "0", "-7/3"):
            self.says(desk, f"at b {right}", right)
            self.says(desk, f"moved b {right} c", "ok")
            self.says(desk, "show c", f"{right} 1")

    def test_shares_of_a_poly(self):
        for wrong in ("0", "1 0", "0 0", "1/2 -3 0", " ".join(["1"] * 13 + ["0"]), " ".join(["0"] * 60),
                      " ".join(["1"] * 59 + ["0"])):
            self.is_none(f"let a {wrong}")
            self.is_none(f"let c {wrong}")
        for many in (61, 62, 100, 5000):
            self.is_none(f"let a {' '.join(['1'] * many)}")
        self.unchanged(self.few_kept(), f"let a {' '.join(['1'] * 60)}", "full")

    def test_places(self):
        for wrong in NO_NUMBERS + ("13", "14", "20", "40", "100", str(THIRTY), "0x1", "1e1"):
            self.is_none(f"row {wrong}")
            self.is_none(f"turns {wrong}")

    def test_many(self):
        for wrong in NO_NUMBERS + (str(GREAT + 1), str(GREAT + 2), str(10 * GREAT), "1e30", f"{GREAT}/1", "b"):
            self.is_none(f"sum a {wrong}")
            self.is_none(f"signed a {wrong}")
        desk = self.few_kept()
        self.says(desk, f"sum none {GREAT}", "0")
        self.says(desk, f"signed none {GREAT}", "0")
        self.says(desk, "sum a 0", "0")

    def test_no_line_goes_ahead_of_full(self):
        for row in ("let new 0", "let new " + "1 " * 20 + "0", "summed a toolongname", "summed new newer",
                    "plus a new newer", "moved a 2/4 new", "summed a new b", "let a " + "1 " * 60 + "1"):
            self.refused(self.twenty_kept("1 " * 12 + "1"), row)

    def test_what_is_no_text(self):
        no_texts = [thing for thing in ODD_THINGS if not isinstance(thing, str)]
        for thing in no_texts + [0, ("names",), ["names"], ["let", "a"], {"names": 1}]:
            self.is_none(thing)


if __name__ == "__main__":
    unittest.main()
