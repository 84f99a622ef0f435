"""What the tests share: strict likeness, asking twice, refusals, and fixed odd numbers."""

import copy
import random
import unittest
from fractions import Fraction
from math import comb

from powerrests.polys import poly_times

THIRTY = 10 ** 30 - 1
GREAT = 10 ** 30
ALL_PRIMES = [p for p in range(2, 1002) if all(p % k for k in range(2, int(p ** 0.5) + 1))]
PRIMES = [p for p in ALL_PRIMES if p < 200]

# Plain things that are no whole number, no SHARE, no POLY and no row.
ODD_THINGS = (
    None, True, False, "", "1/2", "(1, 2)", "1", [], [1, 2], [(1, 2)], {}, {1: 2}, {0: (1, 1)},
    (None,), (True,), ("",), ([],), ({},), ((),), (((),),), (None, None), ("1", "2"),
    ([1], [2]), ({}, {}), ((1, 2), 1), (1, (1, 2)), (((1, 2), (1, 3)), 1),
)

# Plain things that are no SHARE, some of them nearly one.
NO_SHARES = (
    None, True, 0, 1, "", "1/2", [1, 1], {}, (), (1,), (1, 1, 1), (0, 2), (2, 2), (-2, 4), (1, 0), (1, -2), (-1, -1),
    (True, 1), (1, True), (True, True), (False, 1), ((1, 1), 1), ((1, 1), (1, 1)), ("1", "1"),
)

# The row's numbers at the even places, written out.
EVEN = (
    (1, 1), (1, 6), (-1, 30), (1, 42), (-1, 30), (5, 66), (-691, 2730), (7, 6), (-3617, 510), (43867, 798),
    (-174611, 330), (854513, 138), (-236364091, 2730), (8553103, 6), (-23749461029, 870), (8615841276005, 14322),
    (-7709321041217, 510), (2577687858367, 6), (-26315271553053477373, 1919190), (2929993913841559, 6),
    (-261082718496449122051, 13530),
)


def due_at(n):
    """The row's number at place n, from 0 to 40, made without the program."""
    if n == 1:
        return (-1, 2)
    return (0, 1) if n % 2 == 1 else EVEN[n // 2]


def row_by_hand(last):
    """The row's numbers to a place, as Fractions, made without the program."""
    numbers = []
    for n in range(last + 1):
        total = sum((comb(n + 1, k) * number for k, number in enumerate(numbers) if number), Fraction(0))
        numbers.append(-total / (n + 1) if n else Fraction(1))
    return numbers


LONG_ROW = row_by_hand(198)


def turns_by_hand(last):
    """How many TURNs of 0, 1, .., last go down, made without the program."""
    # The greatest of n + 1 numbers parts a TURN in two; of up first and down first there are as many.
    many = [1, 1]
    while len(many) <= last:
        n = len(many) - 1
        many.append(sum(comb(n, k) * many[k] * many[n - k] for k in range(n + 1)) // 2)
    return many


TURNS = turns_by_hand(40)


def is_wave(numbers):
    """Whether the numbers from 0 on, each once, go up and down, told without the program."""
    if sorted(numbers) != list(range(len(numbers))):
        return False
    rises = [one < other for one, other in zip(numbers, numbers[1:])]
    return all(one != other for one, other in zip(rises, rises[1:]))


def far_due(n, p):
    """The far rest of n by p, where p - 1 doesn't divide n, by the row's number at the least place alike."""
    least = n % (p - 1)
    number = LONG_ROW[least] / least
    return number.numerator * pow(number.denominator, -1, p) % p


def alike(one, other):
    """Whether both are the same in value and in kind, all the way down."""
    if type(one) is not type(other):
        return False
    if isinstance(one, (tuple, list)):
        return len(one) == len(other) and all(alike(a, b) for a, b in zip(one, other))
    if isinstance(one, dict):
        return alike(list(one.items()), list(other.items()))
    return one == other


def share(number):
    """The SHARE of a Fraction or a whole number, made without the program."""
    number = Fraction(number)
    return (number.numerator, number.denominator)


def number_of(pair):
    return Fraction(pair[0], pair[1])


def poly(*numbers):
    """A tuple of SHAREs of Fractions and whole numbers."""
    return tuple(share(number) for number in numbers)


def value(one, x):
    """The value of a POLY at a number, by plain powers."""
    return sum((number_of(pair) * Fraction(x) ** k for k, pair in enumerate(one)), Fraction(0))


def from_above(numbers, k):
    """What the numbers behind place k bring to x ** k where x + 1 stands for x."""
    return sum((comb(j, k) * numbers[j] for j in range(k + 1, len(numbers))), Fraction(0))


def summed_by_hand(one):
    """The POLY of value nought at 0 whose step is this one, made without the program."""
    numbers = [Fraction(0)] * (len(one) + 1)
    for k in range(len(one) - 1, -1, -1):
        numbers[k + 1] = (number_of(one[k]) - from_above(numbers, k)) / (k + 1)
    return poly(*numbers) if one else ()


def signed_by_hand(one):
    """The POLY whose pair is this one, made without the program."""
    numbers = [Fraction(0)] * len(one)
    for k in range(len(one) - 1, -1, -1):
        numbers[k] = (number_of(one[k]) - from_above(numbers, k)) / 2
    return poly(*numbers)


def with_more(one, k, more):
    """The POLY with more at x ** k."""
    numbers = [number_of(pair) for pair in one] + [Fraction(0)] * (k + 1 - len(one))
    numbers[k] += more
    while numbers and numbers[-1] == 0:
        numbers.pop()
    return poly(*numbers)


def due_beneath(n):
    """The primes of a place, made without the program."""
    if n == 1:
        return (2,)
    return tuple(p for p in ALL_PRIMES if n % (p - 1) == 0) if n > 1 and n % 2 == 0 else ()


def due_whole(n):
    """The whole of a place of the row, as a Fraction, made without the program."""
    return number_of(due_at(n)) + sum((Fraction(1, p) for p in due_beneath(n)), Fraction(0))


def table_by_hand(n):
    """The table to n, made without the program."""
    rows = [(1,)]
    while len(rows) <= n:
        rows.append(tuple(sum(rows[-1][::-1][:k]) for k in range(len(rows) + 1)))
    return tuple(rows)


def answer_due(claim):
    """The right answer of a CLAIM, made without the program."""
    word, first, second = claim[:3]
    if word == "number":
        return due_at(first)
    if word == "sum":
        return share(value(summed_by_hand(first), second))
    if word == "signed":
        paper = signed_by_hand(first)
        return share(value(paper, 0) - (-1) ** (second % 2) * value(paper, second))
    if word == "beneath":
        return due_beneath(first)
    return far_due(first, second) if word == "rest" else TURNS[first]


def paper_due(claim):
    """A paper of a CLAIM that is so, made without the program."""
    word, first = claim[:2]
    if word == "sum":
        return summed_by_hand(first)
    if word == "signed":
        return signed_by_hand(first)
    if word == "rest":
        return min(a for a in range(2, claim[2]) if pow(a, first, claim[2]) != 1)
    if word == "turns":
        return table_by_hand(first)
    row = tuple(due_at(k) for k in range(first + 1))
    return row if word == "number" else (row, int(due_whole(first)))


def right(*claim):
    """The CLAIM with its right answer, from all but that."""
    return claim + (answer_due(claim + (None,)),)


def right_claims():
    """CLAIMs that are so, of every word, at the edges and between."""
    odd = Odd(77)
    claims = [right(word, n) for word in ("number", "beneath", "turns") for n in range(41)]
    polys = [(), poly(1), poly(0, 1), poly(Fraction(-1, 2), 3, 0, 5), odd.poly(12, 12), odd.poly(13, 12)]
    for word in ("sum", "signed"):
        for one in polys:
            claims += [right(word, one, many) for many in (0, 1, 2, 7, 10 ** 30 - 1, 10 ** 30)]
    for n, p in ((2, 5), (4, 7), (32, 37), (44, 59), (10, 199), (196, 199), (10 ** 30 - 2, 5), (10 ** 30 - 4, 197),
                 (2 * 10 ** 28, 7), (10 ** 29 + 6, 101), (2 * 199, 199), (10, 5)):
        claims.append(right("rest", n, p))
    return claims


def wrong_answers(claim):
    """Other answers that make it a CLAIM still."""
    word, answer = claim[0], claim[-1]
    if word == "rest":
        return [rest for rest in range(claim[2]) if rest != answer][:40]
    if word == "turns":
        return [answer + 1, answer - 1, -answer, 0, 10 ** 59, -10 ** 59]
    if word == "beneath":
        others = [answer + (2,), answer[:-1], answer[1:], answer[::-1], answer + answer, (), (2, 3), (-2,), (THIRTY,)]
        return [other for other in others if other != answer]
    less, more = share(number_of(answer) - 1), share(number_of(answer) + Fraction(1, 7))
    others = [less, more, (-answer[0], answer[1]), (0, 1), (1, 1), (10 ** 600 - 1, 10 ** 600 - 2), (7, 10 ** 600 - 9)]
    return [other for other in others if other != answer]


def with_lists(thing):
    """The things that come of putting a list in the place of one tuple at any depth."""
    if not isinstance(thing, tuple):
        return []
    inner = [thing[:k] + (other,) + thing[k + 1:] for k, part in enumerate(thing) for other in with_lists(part)]
    return [list(thing)] + inner


def deep(many):
    """A tuple within tuples, so many deep."""
    thing = ()
    for _ in range(many):
        thing = (thing,)
    return thing


class Case(unittest.TestCase):
    """Asks twice, and looks whether what was handed in stays as it was."""

    def told(self, function, *things):
        before = copy.deepcopy(things)
        first = function(*things)
        kept = copy.deepcopy(first)
        again = function(*things)
        self.assertTrue(alike(first, kept), f"{function.__name__}: what was told has changed")
        self.assertTrue(alike(first, again), f"{function.__name__}: another answer the next time")
        self.assertTrue(alike(things, before), f"{function.__name__}: a thing handed in was changed")
        return first

    def tells(self, due, function, *things):
        told = self.told(function, *things)
        if not alike(told, due):
            self.fail(f"{function.__name__}{things!r:.300}: told {told!r:.300}, due {due!r:.300}")

    def refuses(self, kind, fields, function, *things):
        before = copy.deepcopy(things)
        for _ in range(2):
            with self.assertRaises(kind) as caught:
                function(*things)
            self.assertIs(type(caught.exception), kind)
            for name, due in fields.items():
                kept = getattr(caught.exception, name)
                self.assertTrue(alike(kept, due), f"{things!r:.300}: {name} is {kept!r:.300}, due {due!r:.300}")
        self.assertTrue(alike(things, before))

    def is_right_share(self, pair):
        self.assertIs(type(pair), tuple)
        self.assertEqual(len(pair), 2)
        self.assertIs(type(pair[0]), int)
        self.assertIs(type(pair[1]), int)
        self.assertGreaterEqual(pair[1], 1)
        self.assertTrue(alike(pair, share(number_of(pair))), f"{pair!r:.300} is not in lowest terms")

    def is_right_poly(self, thing):
        self.assertIs(type(thing), tuple)
        for pair in thing:
            self.is_right_share(pair)
        self.assertFalse(thing and thing[-1] == (0, 1), f"{thing!r:.300} has nought at its end")

    def has_values(self, told, degree, due):
        """Whether the POLY told is the one of at most this degree with the values that due tells."""
        self.is_right_poly(told)
        self.assertLessEqual(len(told), degree + 1)
        # So many values settle a polynomial of that degree.
        for x in [Fraction(k, 3) - 2 for k in range(degree + 2)]:
            self.assertEqual(value(told, x), due(x))


class Odd:
    """Numbers without a pattern, the same ones each time."""

    def __init__(self, seed):
        self.source = random.Random(seed)

    def whole(self, figures):
        return self.source.randint(-(10 ** figures - 1), 10 ** figures - 1)

    def pair(self, figures):
        return share(Fraction(self.whole(figures), self.source.randint(1, 10 ** figures - 1)))

    def wave(self, n, down):
        """A TURN of n, of two numbers or more, that goes down, or up, first."""
        numbers = list(range(n))
        self.source.shuffle(numbers)
        for k in range(n - 1):
            # Exchanging two that go the wrong way leaves the pair ahead of them right.
            if (numbers[k] > numbers[k + 1]) != (down == (k % 2 == 0)):
                numbers[k], numbers[k + 1] = numbers[k + 1], numbers[k]
        return tuple(numbers)

    def pairs(self, many, figures):
        return tuple(self.pair(figures) for _ in range(many))

    def poly(self, many, figures):
        """A POLY of just so many SHAREs, some of them nought, but not the last."""
        pairs = [self.pair(figures) if self.source.randint(0, 4) else (0, 1) for _ in range(many)]
        while pairs and pairs[-1] == (0, 1):
            pairs[-1] = self.pair(figures)
        return tuple(pairs)


def some_polys():
    """(), constants, all powers, POLYs of thirteen SHAREs of twelve figures, one of twenty-one."""
    odd = Odd(41)
    few = [(), poly(1), poly(-3), poly(Fraction(1, 2)), poly(0, 0, 7), poly(1, -1, 0, Fraction(2, 5))]
    powers = [poly(*[0] * n, 1) for n in range(21)]
    return few + powers + [odd.poly(many, 12) for many in (1, 2, 7, 13, 13)] + [
        poly_times(odd.poly(11, 12), odd.poly(11, 12))]


def no_polys(right, most):
    """Plain things that are no POLY of at most so many SHAREs, some of them nearly the right one."""
    things = list(ODD_THINGS) + [0, 1, -1, THIRTY, 10 ** 3999, deep(39), ((0, 1),), ((0, 1), (0, 1))]
    things += [list(right), [list(pair) for pair in right], {0: right}, (right,), right + ((0, 1),), str(right)]
    for wrong in NO_SHARES:
        things += [right[:at] + (wrong,) + right[at + 1:] for at in range(len(right))]
        things.append(right + (wrong,))
    for many in (most + 1, most + 2, 2 * most, 2000):
        things += [((0, 1),) * (many - 1) + ((1, 1),), ((1, 2),) * many]
    return things
