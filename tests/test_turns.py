"""[4], [31]: TURNs, those that go down, and all of them."""

import unittest
from itertools import permutations, product

from powerrests.tables import turns_of
from powerrests.turns import goes_down, is_turn, turns_down
from tests.helping import ODD_THINGS, THIRTY, TURNS, Case, Odd, deep, is_wave

# Plain things that are no TURN, some of them nearly one.
NO_TURNS = tuple(thing for thing in ODD_THINGS if thing != ()) + (
    0, 1, -1, 2, THIRTY, -THIRTY, 10 ** 3999, "()", "10", "(1, 0)", [0], [1, 0], {0: 0}, {1: 1, 0: 0}, {(1, 0): True},
    (1,), (-1,), (2,), (False,), (True, False), (True, 0), (1, False), (False, True), (0, True, 2), (1, 0, 2, True),
    (None, 0), ("1", "0"), ("1", 0), (1, "0"), ((1, 0),), ((1,), (0,)), ((0,),), ([1], 0), [(1, 0)], (1, 0, None),
    (1, 0, ()), (1, 0, "2"), (1, 0, [2]), (1, {}, 2), deep(39), (10 ** 3999, 0), (1, -10 ** 3999), (THIRTY, 0, 2),
)


class IsTurn(Case):
    def asks(self, numbers):
        """Asks both of a tuple of whole numbers."""
        wave = is_wave(numbers)
        self.tells(wave, is_turn, numbers)
        self.tells(wave and (len(numbers) < 2 or numbers[0] > numbers[1]), goes_down, numbers)

    def test_written_out(self):
        for thing in ((), (0,), (1, 0), (1, 0, 2), (2, 0, 1), (1, 0, 3, 2), (3, 1, 2, 0)):
            self.tells(True, is_turn, thing)
            self.tells(True, goes_down, thing)
        for thing in ((0, 1), (0, 2, 1), (1, 2, 0), (0, 2, 1, 3), (2, 3, 0, 4, 1)):
            self.tells(True, is_turn, thing)
            self.tells(False, goes_down, thing)
        for thing in ((1,), (0, 0), (1, 1), (0, 2), (1, 2), (-1, 0), (0, 1, 2), (2, 1, 0), (1, 0, 1), (1, 0, 3),
                      (2, 1, 3, 0, 4, 5), (3, 2, 1, 0), (0, 1, 2, 3), (1, 0, 2, 3), (0, 3, 2, 1)):
            self.tells(False, is_turn, thing)
            self.tells(False, goes_down, thing)

    def test_every_short_row(self):
        for n in range(5):
            for numbers in product(range(-1, n + 1), repeat=n):
                self.asks(numbers)
        for numbers in product(range(5), repeat=5):
            self.asks(numbers)

    def test_every_order(self):
        for n in (5, 6, 7):
            for numbers in permutations(range(n)):
                self.assertIs(is_turn(numbers), is_wave(numbers))
                self.assertIs(goes_down(numbers), is_wave(numbers) and numbers[0] > numbers[1])

    def test_long_ones(self):
        odd = Odd(31)
        for n in (40, 41, 77, 120, 199, 200, 2001):
            for down in (True, False):
                wave = odd.wave(n, down)
                self.assertTrue(is_wave(wave))
                self.tells(True, is_turn, wave)
                self.tells(down, goes_down, wave)

    def test_long_ones_with_one_thing_otherwise(self):
        odd = Odd(32)
        for n in (40, 41, 200):
            wave = odd.wave(n, True)
            for k in (0, 1, n // 2, n - 2, n - 1):
                ahead, number, behind = wave[:k], wave[k], wave[k + 1:]
                for other in (n + 1, -1, wave[k - 1], -number - n, THIRTY, None, str(number), (number,), [number]):
                    for thing in (ahead + (other,) + behind, ahead + (other, number) + behind):
                        self.tells(False, is_turn, thing)
                        self.tells(False, goes_down, thing)
                self.asks(ahead + (n,) + behind)
                self.asks(ahead + (n, number) + behind)
                self.asks(ahead + behind)
            for truth in (False, True):
                thing = tuple(truth if number == truth else number for number in wave)
                self.tells(False, is_turn, thing)
                self.tells(False, goes_down, thing)

    def test_long_ones_with_two_exchanged(self):
        odd = Odd(33)
        for n in (40, 77, 200):
            wave = odd.wave(n, n % 2 == 0)
            for k in range(n - 1):
                numbers = list(wave)
                numbers[k], numbers[k + 1] = numbers[k + 1], numbers[k]
                self.asks(tuple(numbers))
            for ordered in (tuple(range(n)), tuple(range(n))[::-1], wave[::-1], wave[1:], wave[:-1], wave + (n,)):
                self.asks(ordered)

    def test_other_things(self):
        for thing in NO_TURNS:
            self.tells(False, is_turn, thing)
            self.tells(False, goes_down, thing)

    def test_lists_of_turns(self):
        for n in range(1, 6):
            for wave in turns_down(n):
                for thing in (list(wave), dict.fromkeys(wave), str(wave), (wave,), [wave], tuple(map(str, wave))):
                    self.tells(False, is_turn, thing)
                    self.tells(False, goes_down, thing)


class TurnsDown(Case):
    def test_all_of_them(self):
        for n in range(8):
            due = [numbers for numbers in permutations(range(n)) if is_wave(numbers)
                   and (n < 2 or numbers[0] > numbers[1])]
            self.tells(due, turns_down, n)

    def test_each_is_one_and_they_rise(self):
        for n in range(8):
            turns = turns_down(n)
            self.assertIs(type(turns), list)
            self.assertEqual(len(turns), turns_of(n))
            self.assertEqual(len(turns), TURNS[n])
            self.assertEqual(turns, sorted(set(turns)))
            for each in turns:
                self.assertIs(type(each), tuple)
                self.tells(True, goes_down, each)

    def test_written_out(self):
        self.tells([()], turns_down, 0)
        self.tells([(0,)], turns_down, 1)
        self.tells([(1, 0)], turns_down, 2)
        self.tells([(1, 0, 2), (2, 0, 1)], turns_down, 3)
        self.tells([(1, 0, 3, 2), (2, 0, 3, 1), (2, 1, 3, 0), (3, 0, 2, 1), (3, 1, 2, 0)], turns_down, 4)

    def test_the_list_is_the_askers_own(self):
        for n in range(8):
            due = list(turns_down(n))
            told = turns_down(n)
            told.clear()
            self.tells(due, turns_down, n)
            told = turns_down(n)
            told.append("more")
            told[0] = None
            self.tells(due, turns_down, n)


if __name__ == "__main__":
    unittest.main()
