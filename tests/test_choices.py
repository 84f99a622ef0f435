"""[7]: choices."""

import unittest
from math import comb

from powerrests.choices import choices_of, choose
from tests.helping import THIRTY, Case


class Choices(Case):
    def test_from_nought_to_n(self):
        for n in range(61):
            for k in range(n + 1):
                self.tells(comb(n, k), choose, n, k)

    def test_beyond_is_nought(self):
        for n in range(61):
            for k in (-1, -2, -n - 1, -60, -61, -10 ** 6, -THIRTY, n + 1, n + 2, 2 * n + 1, 61 + n, 10 ** 6, THIRTY):
                self.tells(0, choose, n, k)

    def test_choices_of(self):
        self.tells((1,), choices_of, 0)
        self.tells((1, 1), choices_of, 1)
        self.tells((1, 4, 6, 4, 1), choices_of, 4)
        for n in range(61):
            self.tells(tuple(comb(n, k) for k in range(n + 1)), choices_of, n)


if __name__ == "__main__":
    unittest.main()
