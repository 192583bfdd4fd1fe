import unittest
from random import Random

from backslope.fractions import (
    f_at, f_minus, f_moved, f_number, f_over, f_plus, f_poly, f_slope, f_times, fraction)
from backslope.numbers import minus, over, plus, times
from backslope.polys import degree, p_at, p_minus, p_moved, p_plus, p_power, p_scaled, p_slope, p_times
from samples import (
    NOUGHT, ONE, UNIT, ZERO, drawn_number, drawn_poly, drawn_whole, is_fraction, line, numbers, polys, whole)

X = (NOUGHT, ONE)
PLACES = (NOUGHT, ONE, (-1, 1), (2, 3), (-3, 2), (-10 ** 12 + 1, 10 ** 12 - 3))


def fractions():
    """Nought, numbers, polynomials, and fractions with double factors below, shared ones and great numbers."""
    chance = Random(92)
    many = [ZERO, (UNIT, UNIT), (((-2, 3),), UNIT), (X, UNIT), (whole([1, 0, -3]), UNIT), (UNIT, X), (((-5, 2),), line(1))]
    many += [(UNIT, p_power(line(1), 2)), (whole([2, 1]), p_times(X, line(1))), (whole([3, 0, 1]), p_power(X, 3))]
    many += [(line(1), whole([1, 0, 1])), (whole([0, 2]), p_power(whole([1, 0, 1]), 2)), (((1, 2), ONE), ((2, 3), ONE))]
    for figures in (1, 12):
        for top, bottom in ((0, 2), (2, 1), (3, 3)):
            many.append(fraction(drawn_poly(chance, top, figures), drawn_poly(chance, bottom, figures)))
    return many + [(((10 ** 60, 7),), ((1, 10 ** 60), ONE))]


FRACTIONS = fractions()
PAIRS = [(F, G) for F in FRACTIONS for G in FRACTIONS]


class Case(unittest.TestCase):
    def same(self, told, asked):
        self.assertTrue(is_fraction(told), told)
        self.assertEqual(told, asked)

    def across(self, told, top, bottom):
        """told is a fraction, and that of top over bottom."""
        self.assertTrue(is_fraction(told), told)
        self.assertEqual(p_times(told[0], bottom), p_times(top, told[1]))


class Made(Case):
    def test_ordinary_ones(self):
        self.same(fraction(whole([2, 2]), whole([0, 4])), (((1, 2), (1, 2)), X))
        self.same(fraction(whole([-1, 0, 1]), whole([1, 2, 1])), (whole([-1, 1]), whole([1, 1])))
        self.same(fraction(whole([1, 1]), whole([-1, 0, 1])), (UNIT, whole([-1, 1])))
        self.same(fraction(whole([0, 3]), whole([0, -6])), (((-1, 2),), UNIT))
        self.same(fraction(whole([1]), ((1, 2), (-1, 3))), (whole([-3]), ((-3, 2), ONE)))

    def test_nought(self):
        for Q in polys():
            if Q != ():
                self.same(fraction((), Q), ZERO)

    def test_by_a_number(self):
        for P in polys():
            self.same(fraction(P, UNIT), (P, UNIT))
            self.same(fraction(P, ((-2, 3),)), (p_scaled(P, (-3, 2)), UNIT))

    def test_by_itself(self):
        for P in polys():
            if P != ():
                self.same(fraction(P, P), (UNIT, UNIT))
                self.same(fraction(p_times(P, P), P), (P, UNIT))
                self.same(fraction(p_scaled(P, (-2, 3)), P), (((-2, 3),), UNIT))

    def test_all_pairs(self):
        for P in polys():
            for Q in polys():
                if Q != ():
                    self.across(fraction(P, Q), P, Q)

    def test_a_common_factor_changes_nothing(self):
        for P in polys():
            for Q in polys():
                if Q != ():
                    told = fraction(P, Q)
                    for factor in (((-2, 3),), X, whole([1, 0, 1]), ((-1, 10 ** 12), (10 ** 12 - 2, 7))):
                        self.same(fraction(p_times(P, factor), p_times(Q, factor)), told)

    def test_told_forms_stay(self):
        for F in FRACTIONS:
            self.same(fraction(F[0], F[1]), F)

    def test_of_polynomials_and_numbers(self):
        self.same(f_poly(()), ZERO)
        self.same(f_number(NOUGHT), ZERO)
        for P in polys():
            self.same(f_poly(P), (P, UNIT))
        for c in numbers():
            self.same(f_number(c), ((c,), UNIT) if c != NOUGHT else ZERO)
            self.same(f_number(c), f_poly((c,) if c != NOUGHT else ()))


class Reckoning(Case):
    def test_ordinary_ones(self):
        one, other = (UNIT, line(1)), (UNIT, line(-1))
        self.same(f_plus(one, other), (whole([0, 2]), whole([-1, 0, 1])))
        self.same(f_minus(one, other), (whole([2]), whole([-1, 0, 1])))
        self.same(f_times(one, other), (UNIT, whole([-1, 0, 1])))
        self.same(f_over(one, other), (whole([1, 1]), whole([-1, 1])))

    def test_what_falls_away(self):
        self.same(f_plus((UNIT, p_times(X, line(1))), (UNIT, X)), (UNIT, line(1)))
        self.same(f_minus((whole([0, 0, 1]), line(1)), (UNIT, line(1))), (whole([1, 1]), UNIT))
        self.same(f_times((X, line(1)), (line(1), X)), (UNIT, UNIT))
        self.same(f_times((whole([2, 2]), X), (X, whole([-1, 0, 1]))), (whole([2]), line(1)))
        self.same(f_over((X, line(1)), (whole([0, 0, 2]), line(1))), (((1, 2),), X))

    def test_plus(self):
        for F, G in PAIRS:
            self.across(f_plus(F, G), p_plus(p_times(F[0], G[1]), p_times(G[0], F[1])), p_times(F[1], G[1]))

    def test_minus(self):
        for F, G in PAIRS:
            self.across(f_minus(F, G), p_minus(p_times(F[0], G[1]), p_times(G[0], F[1])), p_times(F[1], G[1]))

    def test_times(self):
        for F, G in PAIRS:
            self.across(f_times(F, G), p_times(F[0], G[0]), p_times(F[1], G[1]))

    def test_over(self):
        for F, G in PAIRS:
            if G != ZERO:
                self.across(f_over(F, G), p_times(F[0], G[1]), p_times(F[1], G[0]))

    def test_with_nought(self):
        for F in FRACTIONS:
            self.same(f_plus(F, ZERO), F)
            self.same(f_plus(ZERO, F), F)
            self.same(f_minus(F, ZERO), F)
            self.same(f_times(F, ZERO), ZERO)
            self.same(f_times(ZERO, F), ZERO)
            if F != ZERO:
                self.same(f_over(ZERO, F), ZERO)

    def test_with_itself_and_its_opposite(self):
        for F in FRACTIONS:
            opposite = (p_scaled(F[0], (-1, 1)), F[1])
            self.same(f_minus(ZERO, F), opposite)
            self.same(f_minus(F, F), ZERO)
            self.same(f_plus(F, opposite), ZERO)
            self.same(f_plus(F, F), (p_scaled(F[0], (2, 1)), F[1]))
            self.same(f_minus(F, opposite), (p_scaled(F[0], (2, 1)), F[1]))
            self.same(f_times(F, F), (p_times(F[0], F[0]), p_times(F[1], F[1])))
            if F != ZERO:
                self.same(f_over(F, F), (UNIT, UNIT))
                self.same(f_over(F, opposite), (whole([-1]), UNIT))

    def test_there_and_back(self):
        for F, G in PAIRS:
            self.same(f_minus(f_plus(F, G), G), F)
            if G != ZERO:
                self.same(f_over(f_times(F, G), G), F)

    def test_degree_100(self):
        chance = Random(93)
        P, Q, R, S = [drawn_poly(chance, 100, 12, drawn_whole) for time in range(4)]
        F, G = fraction(P, Q), fraction(R, S)
        self.assertEqual([degree(part) for part in F], [100, 100])
        self.across(F, P, Q)
        self.across(f_plus(F, G), p_plus(p_times(P, S), p_times(R, Q)), p_times(Q, S))
        self.across(f_times(F, G), p_times(P, R), p_times(Q, S))
        self.across(f_over(F, G), p_times(P, S), p_times(Q, R))
        self.same(fraction(p_times(P, S), p_times(Q, S)), F)
        P, Q = [drawn_poly(chance, 100, 12) for time in range(2)]
        self.across(fraction(P, Q), P, Q)


class At(Case):
    def test_ordinary_ones(self):
        F = (whole([3, 0, 1]), p_times(X, line(1, 2)))
        F = fraction(*F)
        self.assertEqual(f_at(F, ONE), (4, 1))
        self.assertEqual(f_at(F, (-1, 1)), (4, 3))
        self.assertIsNone(f_at(F, NOUGHT))
        self.assertIsNone(f_at(F, (1, 2)))
        self.assertEqual(f_at((line(1), whole([1, 0, 1])), ONE), NOUGHT)

    def test_just_where_the_bottom_is_nought(self):
        for F in FRACTIONS:
            for c in PLACES + (F[0][0] if F[0] else ONE, minus(NOUGHT, F[1][0])):
                told = f_at(F, c)
                bottom = p_at(F[1], c)
                if bottom == NOUGHT:
                    self.assertIsNone(told)
                else:
                    self.assertEqual(told, over(p_at(F[0], c), bottom))

    def test_nought_is_told_as_a_number(self):
        for c in PLACES:
            self.assertEqual(f_at(ZERO, c), NOUGHT)

    def test_what_falls_away_is_no_bottom(self):
        self.assertEqual(f_at(fraction(whole([-1, 0, 1]), line(1)), ONE), (2, 1))

    def test_sums_and_products(self):
        for F, G in PAIRS:
            for c in ((7, 5), (-10 ** 12 + 1, 10 ** 12 - 3)):
                one, other = f_at(F, c), f_at(G, c)
                self.assertEqual(f_at(f_plus(F, G), c), plus(one, other))
                self.assertEqual(f_at(f_times(F, G), c), times(one, other))


class Slope(Case):
    def test_ordinary_ones(self):
        self.same(f_slope((UNIT, X)), (whole([-1]), whole([0, 0, 1])))
        self.same(f_slope((UNIT, p_power(line(1), 3))), (whole([-3]), p_power(line(1), 4)))
        self.same(f_slope((X, whole([1, 0, 1]))), (whole([1, 0, -1]), whole([1, 0, 2, 0, 1])))
        self.same(f_slope((whole([0, 0, 1]), UNIT)), (whole([0, 2]), UNIT))

    def test_of_numbers(self):
        self.same(f_slope(ZERO), ZERO)
        for c in numbers():
            self.same(f_slope(f_number(c)), ZERO)

    def test_across(self):
        for F in FRACTIONS:
            P, Q = F
            top = p_minus(p_times(Q, p_slope(P)), p_times(P, p_slope(Q)))
            self.across(f_slope(F), top, p_times(Q, Q))

    def test_of_sums_and_products(self):
        for F, G in PAIRS[::3]:
            self.same(f_slope(f_plus(F, G)), f_plus(f_slope(F), f_slope(G)))
            self.same(f_slope(f_times(F, G)), f_plus(f_times(f_slope(F), G), f_times(F, f_slope(G))))

    def test_degree_100(self):
        chance = Random(94)
        P, Q = [drawn_poly(chance, 100, 12, drawn_whole) for time in range(2)]
        top = p_minus(p_times(Q, p_slope(P)), p_times(P, p_slope(Q)))
        self.across(f_slope(fraction(P, Q)), top, p_times(Q, Q))
        self.same(f_slope((UNIT, p_power(line(3), 99))), (whole([-99]), p_power(line(3), 100)))


class Moved(Case):
    def test_ordinary_ones(self):
        self.same(f_moved((UNIT, X), (3, 1)), (UNIT, whole([3, 1])))
        self.same(f_moved((whole([0, 0, 1]), whole([1, 0, 1])), (-1, 2)), (
            ((1, 4), (-1, 1), ONE), ((5, 4), (-1, 1), ONE)))

    def test_by_nought_and_of_nought(self):
        for F in FRACTIONS:
            self.same(f_moved(F, NOUGHT), F)
        for c in PLACES:
            self.same(f_moved(ZERO, c), ZERO)

    def test_across(self):
        for F in FRACTIONS:
            for c in PLACES:
                self.across(f_moved(F, c), p_moved(F[0], c), p_moved(F[1], c))

    def test_there_and_back(self):
        for F in FRACTIONS:
            for c in PLACES:
                self.same(f_moved(f_moved(F, c), (-c[0], c[1])), F)

    def test_worths_move_along(self):
        for F in FRACTIONS:
            for c in PLACES:
                for place in (NOUGHT, (3, 1), (-5, 7)):
                    self.assertEqual(f_at(f_moved(F, c), place), f_at(F, plus(place, c)))

    def test_its_slope_is_the_slope_moved(self):
        for F in FRACTIONS:
            for c in PLACES:
                self.same(f_slope(f_moved(F, c)), f_moved(f_slope(F), c))

    def test_drawn_ones(self):
        chance = Random(95)
        for time in range(10):
            F = fraction(drawn_poly(chance, 4, 12), drawn_poly(chance, 4, 12))
            c = drawn_number(chance, 12)
            self.same(f_moved(f_moved(F, c), (-c[0], c[1])), F)


if __name__ == "__main__":
    unittest.main()
