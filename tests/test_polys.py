import unittest
from random import Random

from backslope.numbers import plus, times
from backslope.polys import (
    bezout, common, degree, monic, p_at, p_minus, p_moved, p_plus, p_power, p_scaled, p_slope, p_split, p_times, poly)
from samples import NOUGHT, ONE, drawn_number, drawn_poly, drawn_whole, is_number, is_poly, numbers, polys, whole

X = (NOUGHT, ONE)
PAIRS = [(P, Q) for P in polys() for Q in polys()]
PLACES = (NOUGHT, ONE, (-1, 1), (2, 3), (-10 ** 12 + 1, 10 ** 12 - 3))


def great_ones(figures=12, draw=drawn_number):
    """Two polynomials of degree 100, one of degree 50, and a number."""
    chance = Random(figures)
    P = drawn_poly(chance, 100, figures, draw)
    Q = drawn_poly(chance, 100, figures, draw)
    return (P, Q, drawn_poly(chance, 50, figures, draw), drawn_number(chance, figures))


class PolyCase(unittest.TestCase):
    def held(self, told, asked):
        self.assertTrue(is_poly(told), told)
        self.assertEqual(told, asked)


class Kinds(PolyCase):
    def test_noughts_at_the_end_are_left_out(self):
        self.held(poly([ONE, (1, 2), NOUGHT, NOUGHT]), (ONE, (1, 2)))
        self.held(poly([NOUGHT, NOUGHT, (-3, 4), NOUGHT]), (NOUGHT, NOUGHT, (-3, 4)))
        self.held(poly([NOUGHT, ONE, NOUGHT, ONE]), (NOUGHT, ONE, NOUGHT, ONE))

    def test_the_empty_list_and_noughts_alone(self):
        for many in (0, 1, 2, 101):
            self.held(poly([NOUGHT] * many), ())

    def test_the_list_is_left_as_it_was(self):
        for row in ([], [NOUGHT], [ONE, NOUGHT, NOUGHT], [(1, 2), ONE]):
            kept = list(row)
            told = poly(row)
            self.assertEqual(row, kept)
            row.append((5, 1))
            self.held(told, poly(kept))

    def test_degree(self):
        self.assertEqual(degree(()), -1)
        self.assertEqual(degree((ONE,)), 0)
        self.assertEqual(degree(X), 1)
        self.assertEqual(degree(great_ones()[0]), 100)

    def test_monic(self):
        self.held(monic(()), ())
        self.held(monic(((-2, 3),)), (ONE,))
        self.held(monic(whole([1, 2])), ((1, 2), ONE))
        for P in polys():
            told = monic(P)
            self.assertTrue(is_poly(told))
            if P != ():
                self.assertEqual(told[-1], ONE)
                self.held(p_scaled(told, P[-1]), P)


class Sums(PolyCase):
    def test_last_numbers_that_come_to_nought(self):
        self.held(p_plus(whole([1, 2, 3]), whole([1, 2, -3])), whole([2, 4]))
        self.held(p_plus(whole([1, 2, 3]), whole([1, -2, -3])), whole([2]))
        self.held(p_plus(whole([1, 2, 3]), whole([-1, -2, -3])), ())
        self.held(p_minus(whole([1, 2, 3]), whole([0, 2, 3])), whole([1]))
        for P in polys():
            self.held(p_minus(P, P), ())
            self.held(p_plus(P, p_scaled(P, (-1, 1))), ())

    def test_nought_on_either_side(self):
        for P in polys():
            self.held(p_plus(P, ()), P)
            self.held(p_plus((), P), P)
            self.held(p_minus(P, ()), P)
            self.held(p_minus((), P), p_scaled(P, (-1, 1)))

    def test_each_place(self):
        for P, Q in PAIRS + [great_ones()[:2]]:
            for told, sign in ((p_plus(P, Q), ONE), (p_minus(P, Q), (-1, 1))):
                self.assertTrue(is_poly(told))
                self.assertTrue(len(told) <= max(len(P), len(Q)))
                for place in range(max(len(P), len(Q))):
                    one, other, found = [row[place] if place < len(row) else NOUGHT for row in (P, Q, told)]
                    self.assertEqual(found, plus(one, times(sign, other)))


class Products(PolyCase):
    def test_ordinary_ones(self):
        self.held(p_times(whole([1, 1]), whole([-1, 1])), whole([-1, 0, 1]))
        self.held(p_times(((1, 2), (1, 3)), ((0, 1), (6, 1))), ((0, 1), (3, 1), (2, 1)))

    def test_nought(self):
        for P in polys():
            self.held(p_times(P, ()), ())
            self.held(p_times((), P), ())
            self.held(p_scaled(P, NOUGHT), ())
        for c in PLACES:
            self.held(p_scaled((), c), ())

    def test_each_place(self):
        for P, Q in PAIRS:
            told = p_times(P, Q)
            self.assertTrue(is_poly(told))
            if P != () and Q != ():
                self.assertEqual(degree(told), degree(P) + degree(Q))
            for place in range(len(told)):
                asked = NOUGHT
                for k in range(place + 1):
                    if k < len(P) and place - k < len(Q):
                        asked = plus(asked, times(P[k], Q[place - k]))
                self.assertEqual(told[place], asked)

    def test_degree_100(self):
        P, Q, other, c = great_ones()
        told = p_times(P, Q)
        self.assertTrue(is_poly(told))
        self.assertEqual(degree(told), 200)
        for place in ((2, 3), (-7, 1)):
            self.assertEqual(p_at(told, place), times(p_at(P, place), p_at(Q, place)))
        self.assertEqual(told[0], times(P[0], Q[0]))
        self.assertEqual(told[200], times(P[100], Q[100]))

    def test_multiples(self):
        for P in polys() + [great_ones()[0]]:
            for c in numbers():
                told = p_scaled(P, c)
                self.assertTrue(is_poly(told))
                if c != NOUGHT:
                    self.assertEqual(told, tuple(times(c, number) for number in P))


class Split(PolyCase):
    def split_held(self, P, Q):
        told = p_split(P, Q)
        self.assertIs(type(told), tuple)
        quotient, rest = told
        self.assertTrue(is_poly(quotient))
        self.assertTrue(is_poly(rest))
        self.assertLess(degree(rest), degree(Q))
        self.assertEqual(p_plus(p_times(Q, quotient), rest), P)
        return told

    def test_ordinary_ones(self):
        self.assertEqual(p_split(whole([-1, 0, 1]), whole([1, 1])), (whole([-1, 1]), ()))
        self.assertEqual(p_split(whole([0, 0, 1]), whole([1, 2])), (((-1, 4), (1, 2)), ((1, 4),)))
        self.assertEqual(p_split(whole([0, 0, 1]), whole([1, -2])), (((-1, 4), (-1, 2)), ((1, 4),)))

    def test_nought(self):
        for Q in polys():
            if Q != ():
                self.assertEqual(p_split((), Q), ((), ()))

    def test_of_lesser_degree(self):
        for P, Q in PAIRS:
            if degree(P) < degree(Q):
                self.assertEqual(p_split(P, Q), ((), P))

    def test_by_a_number(self):
        for P in polys():
            self.assertEqual(p_split(P, whole([-2])), (p_scaled(P, (-1, 2)), ()))
            self.assertEqual(p_split(P, ((3, 7),)), (p_scaled(P, (7, 3)), ()))

    def test_all_pairs(self):
        for P, Q in PAIRS:
            if Q != ():
                self.split_held(P, Q)

    def test_products_leave_no_rest(self):
        for P, Q in PAIRS:
            if Q != ():
                self.assertEqual(p_split(p_times(P, Q), Q), (P, ()))

    def test_places_that_fall_away_on_the_way(self):
        P = whole([5] + [0] * 99 + [1])
        self.split_held(P, whole([1, 0, 0, 0, 0, 0, 0, 3]))
        self.assertEqual(self.split_held(P, whole([-1] + [0] * 49 + [1])), (whole([1] + [0] * 49 + [1]), whole([6])))

    def test_degree_100(self):
        P, Q, other, c = great_ones()
        self.split_held(P, Q)
        self.split_held(P, (c, (-2, 3), ONE))
        P, Q, other, c = great_ones(draw=drawn_whole)
        self.split_held(P, other)


class Common(PolyCase):
    def common_held(self, P, Q, asked):
        self.held(common(P, Q), asked)
        self.held(common(Q, P), asked)

    def test_noughts(self):
        self.held(common((), ()), ())
        for P in polys():
            self.common_held(P, (), monic(P))

    def test_with_a_number(self):
        for P in polys():
            self.common_held(P, ((-2, 3),), whole([1]))

    def test_without_a_common_factor(self):
        self.common_held(whole([1, 1]), whole([-1, 1]), whole([1]))
        self.common_held(whole([1, 0, 1]), ((1, 2), NOUGHT, (3, 1)), whole([1]))
        self.common_held(whole([2, 2]), whole([0, 4]), whole([1]))

    def test_with_one(self):
        self.common_held(whole([-1, 0, 1]), whole([1, 2, 1]), whole([1, 1]))
        self.common_held(whole([0, 0, 4]), whole([0, 6]), X)
        self.common_held(whole([2, -6]), whole([-1, 3]), ((-1, 3), ONE))

    def test_planted_factors(self):
        for P, Q in PAIRS:
            if P != () and Q != ():
                A = p_times(Q, p_plus(p_times(P, X), whole([1])))
                B = p_times(Q, P)
                self.common_held(A, B, monic(Q))

    def test_divides_both_and_its_quotients_have_none(self):
        for P, Q in PAIRS:
            told = common(P, Q)
            self.assertEqual(told, common(Q, P))
            if told != ():
                parts = [p_split(one, told) for one in (P, Q)]
                self.assertEqual([part[1] for part in parts], [(), ()])
                self.assertEqual(common(parts[0][0], parts[1][0]), whole([1]))

    def test_degree_100(self):
        P, Q, other, c = great_ones()
        self.common_held(P, Q, whole([1]))
        left = p_times(other, P[:50] + (ONE,))
        right = p_times(other, Q[:50] + (ONE,))
        self.common_held(left, right, monic(other))
        self.common_held(left, left, monic(left))

    def test_last_numbers_that_a_likely_prime_divides(self):
        for exponent in (31, 61, 89, 127):
            prime = 2 ** exponent - 1
            factor = whole([3, prime])
            self.common_held(p_times(factor, whole([1, 1])), p_times(factor, whole([2, 1])), monic(factor))
            self.common_held(whole([1, prime]), whole([1, 1]), whole([1]))
            self.common_held(whole([1, 1]), whole([prime + 1, 1]), whole([1]))
            self.common_held(whole([prime, 1]), whole([0, 1]), whole([1]))

    def test_numbers_of_any_size(self):
        for figures in (60, 400, 3000, 14000):
            factor = ((-(10 ** figures), 1), ONE)
            self.common_held(p_times(factor, whole([1, 1])), p_times(factor, whole([2, 1])), factor)

    def test_degrees_that_fall_by_more_than_one(self):
        factor = whole([2, 0, 0, 1])
        P = p_times(factor, whole([1] + [0] * 11 + [1]))
        Q = p_times(factor, whole([0, 3] + [0] * 6 + [5]))
        self.common_held(P, Q, factor)


class Bezout(PolyCase):
    def bezout_held(self, P, Q):
        told = bezout(P, Q)
        self.assertIs(type(told), tuple)
        g, u, v = told
        self.assertTrue(is_poly(u))
        self.assertTrue(is_poly(v))
        self.held(g, common(P, Q))
        self.held(p_plus(p_times(u, P), p_times(v, Q)), g)

    def test_one_of_them_nought(self):
        for P in polys():
            if P != ():
                self.bezout_held(P, ())
                self.bezout_held((), P)

    def test_all_pairs(self):
        for P, Q in PAIRS:
            if P != () or Q != ():
                self.bezout_held(P, Q)

    def test_alike_ones_and_multiples(self):
        for P in polys():
            if P != ():
                self.bezout_held(P, P)
                self.bezout_held(P, p_scaled(P, (-5, 3)))
                self.bezout_held(P, p_times(P, P))

    def test_planted_factors(self):
        for P, Q in PAIRS:
            if P != () and Q != () and degree(P) < 4:
                self.bezout_held(p_times(Q, p_plus(p_times(P, X), whole([1]))), p_times(Q, P))

    def test_degrees_that_fall_by_more_than_one(self):
        factor = whole([2, 0, 0, 1])
        P = p_times(factor, whole([1] + [0] * 11 + [1]))
        self.bezout_held(P, p_times(factor, whole([0, 3] + [0] * 6 + [5])))

    def test_numbers_of_any_size(self):
        self.bezout_held(whole([10 ** 3000, 1]), whole([10 ** 2000, 0, 3]))

    def test_degree_100(self):
        P, Q, other, c = great_ones()
        self.bezout_held(P, (c, (-2, 3), ONE))
        self.bezout_held((c, ONE), Q)
        left = p_times(P[:97] + (ONE,), whole([1, 3, 2]))
        right = p_times(P[:97] + (ONE,), whole([5, 0, 0, -2]))
        self.bezout_held(left, right)
        self.bezout_held(*great_ones(draw=drawn_whole)[:2])


class Slope(PolyCase):
    def test_of_nought_and_of_numbers(self):
        self.held(p_slope(()), ())
        for c in ONE, (-2, 3), (10 ** 60, 1):
            self.held(p_slope((c,)), ())

    def test_ordinary_ones(self):
        self.held(p_slope(whole([5, 4, 3, 2])), whole([4, 6, 6]))
        self.held(p_slope((ONE, NOUGHT, (1, 2), (-1, 3))), whole([0, 1, -1]))

    def test_of_products(self):
        for P, Q in PAIRS:
            asked = p_plus(p_times(p_slope(P), Q), p_times(P, p_slope(Q)))
            self.held(p_slope(p_times(P, Q)), asked)

    def test_degree_100(self):
        P = great_ones()[0]
        self.held(p_slope(P), tuple(times((k, 1), P[k]) for k in range(1, 101)))


class At(PolyCase):
    def test_of_nought(self):
        for c in PLACES:
            self.assertEqual(p_at((), c), NOUGHT)

    def test_at_nought(self):
        for P in polys():
            self.assertEqual(p_at(P, NOUGHT), P[0] if P else NOUGHT)

    def test_ordinary_ones(self):
        self.assertEqual(p_at(whole([1, 2, 3]), (2, 1)), (17, 1))
        self.assertEqual(p_at(whole([1, 2, 3]), (-1, 3)), (2, 3))
        self.assertEqual(p_at(((1, 2), (1, 3)), (-3, 2)), NOUGHT)

    def test_term_by_term(self):
        for P in polys() + [great_ones()[0]]:
            for c in PLACES + ((10 ** 60, 7),):
                asked = NOUGHT
                for number in reversed(P):
                    asked = plus(times(asked, c), number)
                told = p_at(P, c)
                self.assertTrue(is_number(told))
                self.assertEqual(told, asked)


class Moved(PolyCase):
    def test_ordinary_ones(self):
        self.held(p_moved(whole([0, 0, 1]), (3, 1)), whole([9, 6, 1]))
        self.held(p_moved(whole([0, 0, 4]), (-1, 2)), whole([1, -4, 4]))
        self.held(p_moved(whole([1, 2]), (1, 3)), ((5, 3), (2, 1)))

    def test_by_nought_and_of_nought(self):
        for P in polys():
            self.held(p_moved(P, NOUGHT), P)
        for c in PLACES:
            self.held(p_moved((), c), ())
            self.held(p_moved(((-2, 3),), c), ((-2, 3),))

    def test_there_and_back(self):
        for P in polys() + [great_ones()[0]]:
            for c in PLACES:
                there = p_moved(P, c)
                self.assertTrue(is_poly(there))
                self.assertEqual(degree(there), degree(P))
                self.assertEqual(p_moved(there, (-c[0], c[1])), P)

    def test_held_against_places(self):
        for P in polys() + [great_ones()[0]]:
            for c in PLACES:
                for place in (NOUGHT, (3, 1), (-5, 7)):
                    self.assertEqual(p_at(p_moved(P, c), place), p_at(P, plus(place, c)))


class Powers(PolyCase):
    def test_n_nought(self):
        for P in polys():
            self.held(p_power(P, 0), whole([1]))
        self.held(p_power((), 0), whole([1]))

    def test_n_one(self):
        for P in polys() + [great_ones()[0]]:
            self.held(p_power(P, 1), P)

    def test_of_nought(self):
        for n in (1, 2, 40):
            self.held(p_power((), n), ())

    def test_held_against_products(self):
        for P in polys():
            product = whole([1])
            for n in range(6):
                self.held(p_power(P, n), product)
                product = p_times(product, P)

    def test_forty(self):
        for P in (X, whole([1, 1]), whole([0, 0, -2]), ((1, 2), NOUGHT, (-2, 3)), whole([0, 10 ** 12 - 1, 0, 7])):
            product = whole([1])
            for n in range(40):
                product = p_times(product, P)
            self.held(p_power(P, 40), product)
        self.held(p_power(((-2, 3),), 40), (((2 ** 40), 3 ** 40),))

    def test_degree_100(self):
        P, Q, other, c = great_ones(draw=drawn_whole)
        self.held(p_power(P, 2), p_times(P, P))
        told = p_power(P, 40)
        self.assertTrue(is_poly(told))
        self.assertEqual(degree(told), 4000)
        self.assertEqual(p_at(told, (-2, 1)), (p_at(P, (-2, 1))[0] ** 40, 1))


if __name__ == "__main__":
    unittest.main()
