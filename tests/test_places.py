"""[4], [34]: the places of TURNs that go down."""

import unittest

from powerrests.errors import NoTurn
from powerrests.places import place_of, turn_at
from powerrests.turns import turns_down
from tests.helping import ODD_THINGS, THIRTY, TURNS, Case, Odd, deep, is_wave


def some_places(n):
    """The first places, the last ones, and many between."""
    last = TURNS[n] - 1
    odd = Odd(n)
    few = list(range(min(TURNS[n], 12))) + [last - k for k in range(min(TURNS[n], 12))]
    parts = [last * k // 17 for k in range(18)] + [odd.whole(30) % TURNS[n] for _ in range(40)]
    return sorted(set(few + parts))


class Places(Case):
    def test_every_place(self):
        for n in range(8):
            due = turns_down(n)
            for place, wave in enumerate(due):
                self.tells(wave, turn_at, n, place)
                self.tells(place, place_of, wave)

    def test_every_place_of_eight_and_nine(self):
        for n in (8, 9):
            waves = [turn_at(n, place) for place in range(TURNS[n])]
            # As many as there are, each going down, and rising: so just these.
            self.assertEqual(waves, sorted(set(waves)))
            for place, wave in enumerate(waves):
                self.assertTrue(is_wave(wave) and wave[0] > wave[1])
                self.assertEqual(place_of(wave), place)

    def test_there_and_back(self):
        for n in range(21):
            waves = []
            for place in some_places(n):
                wave = self.told(turn_at, n, place)
                self.assertEqual((type(wave), len(wave)), (tuple, n))
                self.assertEqual([type(number) for number in wave], [int] * n)
                self.assertTrue(is_wave(wave) and (n < 2 or wave[0] > wave[1]))
                self.tells(place, place_of, wave)
                waves.append(wave)
            self.assertEqual(waves, sorted(set(waves)))

    def test_back_and_there(self):
        odd = Odd(34)
        for n in range(2, 21):
            for _ in range(20):
                wave = odd.wave(n, True)
                place = self.told(place_of, wave)
                self.assertIs(type(place), int)
                self.assertTrue(0 <= place < TURNS[n])
                self.tells(wave, turn_at, n, place)

    def test_neighbouring_places(self):
        odd = Odd(35)
        for n in (12, 19, 20):
            start = abs(odd.whole(30)) % (TURNS[n] - 300)
            waves = [turn_at(n, place) for place in range(start, start + 300)]
            self.assertEqual(waves, sorted(set(waves)))
            self.assertEqual([place_of(wave) for wave in waves], list(range(start, start + 300)))

    def test_written_out(self):
        self.tells((), turn_at, 0, 0)
        self.tells((0,), turn_at, 1, 0)
        self.tells((1, 0), turn_at, 2, 0)
        self.tells((1, 0, 2), turn_at, 3, 0)
        self.tells((2, 0, 1), turn_at, 3, 1)
        self.tells((2, 1, 3, 0), turn_at, 4, 2)
        self.tells(0, place_of, ())
        self.tells(0, place_of, (0,))
        self.tells(4, place_of, (3, 1, 2, 0))

    def test_the_first_and_the_last(self):
        for n in range(2, 21):
            first = [k ^ 1 for k in range(n - n % 2)] + [n - 1] * (n % 2)
            self.tells(tuple(first), turn_at, n, 0)
            last = [n - 1] + [n - 2 - (k ^ 1) for k in range((n - 1) // 2 * 2)] + [0] * ((n - 1) % 2)
            self.tells(tuple(last), turn_at, n, TURNS[n] - 1)


class NoPlaces(Case):
    def test_no_such_place(self):
        for n in range(21):
            for place in (-1, -2, -TURNS[n], -THIRTY, TURNS[n], TURNS[n] + 1, 2 * TURNS[n], THIRTY, 10 ** 3999):
                self.refuses(NoTurn, {"word": "place", "thing": place}, turn_at, n, place)

    def refused(self, thing):
        self.refuses(NoTurn, {"word": "row", "thing": thing}, place_of, thing)
        with self.assertRaises(NoTurn) as caught:
            place_of(thing)
        self.assertIs(caught.exception.thing, thing)

    def test_a_turn_that_goes_up(self):
        odd = Odd(36)
        for n in range(2, 21):
            for wave in [odd.wave(n, False) for _ in range(3)]:
                self.refused(wave)
            self.refused(tuple(n - 1 - k for k in turn_at(n, TURNS[n] // 2)))

    def test_too_many_numbers(self):
        odd = Odd(37)
        for n in (21, 22, 40, 41, 200):
            for down in (True, False):
                self.refused(odd.wave(n, down))
        self.told(place_of, odd.wave(20, True))

    def test_no_turns(self):
        odd = Odd(38)
        for thing in ((1,), (-1,), (0, 0), (1, 1), (2, 0), (0, 1, 2), (2, 1, 0), (1, 0, 3), (1, 0, 2, 3), (3, 2, 0, 1),
                      (True, False), (True, 0), (1, False), (False,), (1, 0, True)):
            self.refused(thing)
        for n in (3, 8, 20):
            wave = odd.wave(n, True)
            for thing in (wave[::-1] + (n,), wave + (n + 1,), wave + (wave[0],), wave[:1] * 2 + wave[1:], (wave,),
                          tuple(sorted(wave)), tuple(sorted(wave))[::-1], tuple(k + 1 for k in wave)):
                self.refused(thing)

    def test_other_things(self):
        odd = Odd(39)
        for thing in [thing for thing in ODD_THINGS if thing != ()]:
            self.refused(thing)
        for thing in (0, 1, THIRTY, 10 ** 3999, "10", (None, 0), ("1", "0"), ((1, 0),), deep(39), [], [0], [1, 0],
                      {1: 0}, list(odd.wave(20, True)), dict(enumerate(odd.wave(20, True))), str(odd.wave(20, True))):
            self.refused(thing)

    def test_a_refusal_changes_nothing(self):
        wave = turn_at(20, 10 ** 14)
        for place in (-1, TURNS[20], THIRTY):
            self.refuses(NoTurn, {"word": "place", "thing": place}, turn_at, 20, place)
            self.refused(wave[::-1] + (20,))
            self.tells(wave, turn_at, 20, 10 ** 14)
            self.tells(10 ** 14, place_of, wave)


if __name__ == "__main__":
    unittest.main()
