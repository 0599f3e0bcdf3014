"""The simplex beneath point 33, by itself."""

import unittest
from fractions import Fraction
from random import Random

from halfcrumb.simplex import most_of
from tests.common import place_of


class MostOf(unittest.TestCase):
    def check(self, rows, limits, gains):
        """The amounts keep the limits, the prices cover the gains, and both are worth the same: so both are best."""
        told = most_of(rows, limits, gains)
        amounts, prices = [[Fraction(*fraction) for fraction in fractions] for fractions in told]
        self.assertEqual(told, tuple([place_of(number) for number in numbers] for numbers in (amounts, prices)))
        self.assertEqual((len(amounts), len(prices)), (len(gains), len(rows)))
        self.assertGreaterEqual(min([*amounts, *prices]), 0)
        for row, limit in zip(rows, limits):
            self.assertLessEqual(sum(number * amount for number, amount in zip(row, amounts)), limit)
        for column, gain in enumerate(gains):
            self.assertGreaterEqual(sum(price * row[column] for price, row in zip(prices, rows)), gain)
        best = sum(gain * amount for gain, amount in zip(gains, amounts))
        self.assertEqual(sum(price * limit for price, limit in zip(prices, limits)), best)
        return best

    def test_small_ones(self):
        self.assertEqual(self.check([[1]], [7], [3]), 21)
        self.assertEqual(self.check([[2, 1], [1, 2]], [4, 4], [1, 1]), Fraction(8, 3))
        self.assertEqual(self.check([[1, 1]], [0], [5, 6]), 0)
        self.assertEqual(self.check([[1, -1], [0, 1]], [2, 3], [1, 0]), 5)
        self.assertEqual(self.check([[1, 2]], [4], [0, -1]), 0)

    def test_one_that_goes_round_by_the_greatest_gain(self):
        # By always taking the greatest gain this one never comes to an end.
        rows = [[1, -11, -5, 18], [1, -3, -1, 2], [1, 0, 0, 0]]
        self.assertEqual(self.check(rows, [0, 0, 1], [10, -57, -9, -24]), 1)

    def test_many_limits_of_nought(self):
        source = Random(33)
        for row in range(200):
            many = source.randint(1, 5)
            rows = [[source.randint(-3, 3) for column in range(many)] for line in range(source.randint(1, 5))]
            limits = [source.choice((0, 0, 1, 4)) for line in rows]
            # The last row makes sure that there is a most.
            self.check([*rows, [1] * many], [*limits, 5], [source.randint(-3, 4) for column in range(many)])

    def test_great_numbers(self):
        source = Random(34)
        for row in range(20):
            rows = [[source.randint(-10 ** 30, 10 ** 40) for column in range(6)] for line in range(6)]
            limits = [source.randrange(10 ** 40) for line in rows]
            self.check([*rows, [1] * 6], [*limits, 10 ** 9], [source.randrange(10 ** 40) for column in range(6)])


if __name__ == "__main__":
    unittest.main()
