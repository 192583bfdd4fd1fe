import unittest

from backslope.numbers import before, floor_of, minus, over, plus, power, ratio, times
from samples import NOUGHT, ONE, is_number, numbers

PAIRS = [(one, other) for one in numbers() for other in numbers()]


class Ratio(unittest.TestCase):
    def test_lowest_terms(self):
        self.assertEqual(ratio(3, 1), (3, 1))
        self.assertEqual(ratio(6, 4), (3, 2))
        self.assertEqual(ratio(-2, 4), (-1, 2))
        self.assertEqual(ratio(12, 12), (1, 1))
        self.assertEqual(ratio(10 ** 60, 10 ** 59), (10, 1))

    def test_a_bottom_below_nought(self):
        self.assertEqual(ratio(3, -1), (-3, 1))
        self.assertEqual(ratio(-6, -4), (3, 2))
        self.assertEqual(ratio(2, -4), (-1, 2))

    def test_nought(self):
        for bottom in (1, -1, 7, -12, 10 ** 60, -(10 ** 60)):
            self.assertEqual(ratio(0, bottom), NOUGHT)

    def test_every_sign_and_size(self):
        wholes = list(range(-12, 13)) + [10 ** 12 - 1, -(10 ** 12), 6 ** 77, -(10 ** 60)]
        for top in wholes:
            for bottom in wholes:
                if bottom != 0:
                    told = ratio(top, bottom)
                    self.assertTrue(is_number(told), told)
                    self.assertEqual(told[0] * bottom, top * told[1])


class Reckoning(unittest.TestCase):
    def held(self, told, top, bottom):
        """told is a number, and that of top and bottom."""
        self.assertTrue(is_number(told), told)
        self.assertEqual(told[0] * bottom, top * told[1])

    def test_ordinary_ones(self):
        self.assertEqual(plus((1, 2), (1, 3)), (5, 6))
        self.assertEqual(minus((1, 2), (1, 3)), (1, 6))
        self.assertEqual(times((2, 3), (3, 4)), (1, 2))
        self.assertEqual(over((2, 3), (-4, 9)), (-3, 2))

    def test_plus(self):
        for one, other in PAIRS:
            self.held(plus(one, other), one[0] * other[1] + other[0] * one[1], one[1] * other[1])

    def test_minus(self):
        for one, other in PAIRS:
            self.held(minus(one, other), one[0] * other[1] - other[0] * one[1], one[1] * other[1])

    def test_times(self):
        for one, other in PAIRS:
            self.held(times(one, other), one[0] * other[0], one[1] * other[1])

    def test_over(self):
        for one, other in PAIRS:
            if other != NOUGHT:
                self.held(over(one, other), one[0] * other[1], one[1] * other[0])

    def test_there_and_back(self):
        for one, other in PAIRS:
            self.assertEqual(minus(plus(one, other), other), one)
            if other != NOUGHT:
                self.assertEqual(over(times(one, other), other), one)


class Order(unittest.TestCase):
    def test_both_sides(self):
        self.assertIs(before((1, 3), (1, 2)), True)
        self.assertIs(before((1, 2), (1, 3)), False)
        self.assertIs(before((-1, 2), (-1, 3)), True)
        self.assertIs(before((-1, 3), (-1, 2)), False)
        self.assertIs(before((-1, 2), (0, 1)), True)
        self.assertIs(before((0, 1), (-1, 2)), False)

    def test_alike_ones(self):
        for one in numbers():
            self.assertIs(before(one, one), False)

    def test_held_against_the_difference(self):
        for one, other in PAIRS:
            self.assertIs(before(one, other), minus(other, one)[0] > 0)

    def test_close_ones_of_sixty_figures(self):
        self.assertIs(before((10 ** 60, 10 ** 60 + 1), (10 ** 60 + 1, 10 ** 60 + 2)), True)
        self.assertIs(before((10 ** 60 + 1, 10 ** 60 + 2), (10 ** 60, 10 ** 60 + 1)), False)


class Floor(unittest.TestCase):
    def test_whole_ones(self):
        for top in (-10 ** 60, -3, -1, 0, 1, 3, 10 ** 60):
            self.assertEqual(floor_of((top, 1)), top)

    def test_others(self):
        self.assertEqual(floor_of((1, 2)), 0)
        self.assertEqual(floor_of((7, 2)), 3)
        self.assertEqual(floor_of((-1, 2)), -1)
        self.assertEqual(floor_of((-7, 2)), -4)
        self.assertEqual(floor_of((-1, 10 ** 60)), -1)
        self.assertEqual(floor_of((10 ** 60 - 1, 10 ** 60)), 0)

    def test_none_greater_is_not_more(self):
        for one in numbers():
            told = floor_of(one)
            self.assertIs(type(told), int)
            self.assertTrue(told * one[1] <= one[0] < (told + 1) * one[1])


class Power(unittest.TestCase):
    def test_n_nought(self):
        for one in numbers():
            self.assertEqual(power(one, 0), ONE)
        self.assertEqual(power(NOUGHT, 0), ONE)

    def test_n_one(self):
        for one in numbers():
            self.assertEqual(power(one, 1), one)

    def test_of_nought(self):
        for n in (1, 2, 999, 1000):
            self.assertEqual(power(NOUGHT, n), NOUGHT)

    def test_n_below_nought(self):
        self.assertEqual(power((2, 3), -1), (3, 2))
        self.assertEqual(power((-2, 3), -1), (-3, 2))
        self.assertEqual(power((-2, 3), -2), (9, 4))
        self.assertEqual(power((-2, 1), -3), (-1, 8))
        self.assertEqual(power((-1, 1), -1), (-1, 1))

    def test_held_against_products(self):
        for one in numbers():
            product = ONE
            for n in range(12):
                self.assertEqual(power(one, n), product)
                if one != NOUGHT:
                    self.assertEqual(power(one, -n), over(ONE, product))
                product = times(product, one)

    def test_a_thousand_either_way(self):
        for one in ((2, 3), (-2, 3), (1, 1), (-1, 1), (10 ** 12 - 1, 10 ** 12 - 2), (-(10 ** 60), 7)):
            for n in (999, 1000):
                self.assertEqual(power(one, n), (one[0] ** n, one[1] ** n))
                told = power(one, -n)
                sign = -1 if one[0] < 0 and n == 999 else 1
                self.assertEqual(told, (sign * one[1] ** n, abs(one[0]) ** n))


if __name__ == "__main__":
    unittest.main()
