import unittest
from fractions import Fraction
from math import prod
from random import Random

from backslope.errors import TooGreat
from backslope.fractions import f_minus, f_moved, f_number, f_over, f_plus, f_poly, f_times, fraction
from backslope.parts import meets
from backslope.polys import degree, number_of, p_minus, p_moved, p_plus, p_power, p_scaled, p_times, poly
from backslope.sumpaper import shows_no_sum, shows_sum
from backslope.sums import steps_of, summed, top_of
from samples import (
    CIRCLE, CUBE, NOUGHT, ONE, SQUARE, UNIT, X, ZERO, drawn_fraction, drawn_number, drawn_poly, failing_weights, line,
    lowest, polys, product, weight_of, whole)

NEXT = whole([1, 1])


def column(a, b, i):
    """What k ^ i comes to: a(k) (k + 1) ^ i - b(k - 1) k ^ i."""
    return p_minus(p_times(a, p_power(NEXT, i)), p_times(p_moved(b, (-1, 1)), p_power(X, i)))


def as_told(r, paper):
    """What the paper must show, each thing asked one after another as the document tells it."""
    a, b, c, weights = paper
    if () in (a, b, c):
        return False
    if f_times(fraction(a, b), fraction(p_moved(c, ONE), c)) != r or any(h >= 0 for h in meets(a, b)):
        return False
    if weight_of(weights, c) == 0:
        return False
    top = top_of(a, b, c)
    return top is None or all(weight_of(weights, column(a, b, i)) == 0 for i in range(top + 1))


def steps_without_sum():
    chance = Random(241)
    many = [f_poly(NEXT), (UNIT, NEXT), (X, NEXT), (p_power(X, 2), p_power(NEXT, 2)), fraction(whole([7, -1]), NEXT)]
    many += [fraction(p_scaled(X, (2, 1)), NEXT), (CIRCLE, SQUARE)]
    many += [(CUBE, p_moved(whole([3, 0, last, 1]), ONE)) for last in (2, 6, 11)]
    for F in ((UNIT, CIRCLE), (X, CIRCLE), (CUBE, p_times(SQUARE, X)), fraction(UNIT, p_times(X, whole([1, 2])))):
        many.append(f_over(f_moved(F, ONE), F))
    # Ones with a c: something in closed form, and one over k more.
    for time in range(6):
        S = drawn_fraction(chance, chance.randrange(3), chance.randrange(3), 1)
        F = f_plus(f_minus(f_moved(S, ONE), S), (UNIT, X))
        many.append(f_over(f_moved(F, ONE), F))
    many.append(fraction(p_times(whole([3, 1]), CUBE), p_times(X, SQUARE)))
    many.append(fraction(p_times(p_moved(CIRCLE, (4, 1)), X), p_times(CIRCLE, NEXT)))
    many += [drawn_fraction(chance, top, bottom, 12) for top, bottom in ((2, 2), (1, 3), (3, 0))]
    return many


def steps_with_sum():
    chance = Random(242)
    many = [f_number(ONE), f_number((2, 1)), f_number((-1, 3)), fraction(p_power(NEXT, 2), X), (X, whole([2, 1]))]
    many += [fraction(whole([3, 1]), NEXT), fraction(p_scaled(NEXT, (2, 1)), X), fraction(whole([-7, 1]), NEXT)]
    many += [fraction(NEXT, whole([6, 1])), fraction(NEXT, whole([4, -1]))]
    for time in range(6):
        S = drawn_fraction(chance, 1 + chance.randrange(2), chance.randrange(3), 1)
        F = f_minus(f_moved(S, ONE), S)
        many.append(f_over(f_moved(F, ONE), F))
    many.append(f_over(f_moved(f_poly(drawn_poly(chance, 4, 12)), ONE), f_poly(drawn_poly(Random(242), 4, 12))))
    return [r for r in many if summed(r)[0] == "told"]


PAPERS = [(r, summed(r)[1]) for r in steps_without_sum()]
SUMS = [(r, summed(r)[1]) for r in steps_with_sum()]


class Sums(unittest.TestCase):
    def test_samples(self):
        self.assertGreaterEqual(len(SUMS), 14)
        for r in steps_without_sum():
            self.assertEqual(summed(r)[0], "none")

    def test_the_sum(self):
        for r, s in SUMS:
            self.assertIs(shows_sum(r, s), True)

    def test_ordinary_ones(self):
        self.assertIs(shows_sum(f_number((2, 1)), f_number(ONE)), True)
        self.assertIs(shows_sum(f_number((2, 1)), f_number((2, 1))), False)
        self.assertIs(shows_sum(fraction(p_power(NEXT, 2), X), (UNIT, X)), True)
        self.assertIs(shows_sum(fraction(p_power(NEXT, 2), X), (UNIT, NEXT)), False)
        self.assertIs(shows_sum((X, whole([2, 1])), (whole([-1, -1]), UNIT)), True)

    def test_twice_and_nought(self):
        for r, s in SUMS:
            for c in ((2, 1), (-1, 1), (10 ** 12 - 2, 10 ** 12 - 1)):
                self.assertIs(shows_sum(r, f_times(f_number(c), s)), False)
            self.assertIs(shows_sum(r, ZERO), False)

    def test_one_more(self):
        for r, s in SUMS:
            for c in (ONE, (-2, 3), (1, 10 ** 12)):
                self.assertIs(shows_sum(r, f_plus(s, f_number(c))), r == f_number(ONE))
            self.assertIs(shows_sum(r, f_plus(s, (X, UNIT))), False)
            self.assertIs(shows_sum(r, f_plus(s, (UNIT, whole([19, 1])))), False)

    def test_another_step(self):
        for r, s in SUMS:
            for other in [f_times(r, f_number((2, 1))), f_plus(r, f_number(ONE)), f_moved(r, (9, 1))]:
                if other != r:
                    self.assertIs(shows_sum(other, s), False)

    def test_no_fraction_where_there_is_none(self):
        chance = Random(243)
        for r, paper in PAPERS:
            for time in range(6):
                self.assertIs(shows_sum(r, drawn_fraction(chance, chance.randrange(3), chance.randrange(3), 1)), False)


class Papers(unittest.TestCase):
    def true(self, r, paper):
        self.assertIs(shows_no_sum(r, paper), True)
        self.assertIs(as_told(r, paper), True)

    def false(self, r, paper):
        self.assertIs(shows_no_sum(r, paper), False)
        self.assertIs(as_told(r, paper), False)

    def test_papers_told(self):
        for r, paper in PAPERS:
            self.true(r, paper)

    def test_ordinary_ones(self):
        # 1 / k: k f(k + 1) - k f(k) = 1 has no f, as it isn't so at k = 0.
        self.true((X, NEXT), (X, NEXT, UNIT, (ONE,)))
        self.false((X, NEXT), (X, NEXT, UNIT, (NOUGHT, ONE)))
        self.true(f_poly(NEXT), (NEXT, UNIT, UNIT, (ONE,)))
        # Here any weights with the first not nought do, as no degree is left.
        self.true(f_poly(NEXT), (NEXT, UNIT, UNIT, ((-5, 7), (3, 1), ONE, ONE)))
        self.false(f_poly(NEXT), (NEXT, UNIT, UNIT, (NOUGHT, ONE)))
        # 1 has the sum k.
        self.false(f_number(ONE), (UNIT, UNIT, UNIT, (ONE,)))

    def test_weights_all_times_a_number(self):
        for r, (a, b, c, weights) in PAPERS:
            for number in ((2, 1), (-1, 3), (10 ** 12 - 2, 7)):
                scaled = tuple(lowest(number[0] * top, number[1] * bottom) for top, bottom in weights)
                self.true(r, (a, b, c, scaled))

    def test_more_weights_than_are_wanted(self):
        for r, (a, b, c, weights) in PAPERS:
            for many in (1, 2, 30):
                self.true(r, (a, b, c, weights + (NOUGHT,) * many))
            top = top_of(a, b, c)
            most = max(degree(column(a, b, i)) for i in range(top + 1)) if top is not None else degree(c)
            most = max(most, degree(c))
            full = weights + (NOUGHT,) * max(most + 1 - len(weights), 0)
            for spare in ((ONE,), ((-2, 3), ONE), (NOUGHT, NOUGHT, (10 ** 12, 1))):
                self.true(r, (a, b, c, full + spare))

    def test_numbers_ahead_of_a_and_b(self):
        for r, (a, b, c, weights) in PAPERS:
            for number in ((2, 1), (-1, 1), (2, 3)):
                self.true(r, (p_scaled(a, number), p_scaled(b, number), c, weights))
                self.true(r, (a, b, p_scaled(c, number), weights))
                self.false(r, (p_scaled(a, number), b, c, weights))
                self.false(r, (a, p_scaled(b, number), c, weights))

    def test_noughts(self):
        for r, paper in PAPERS:
            for chosen in range(1, 8):
                spoilt = tuple(() if chosen >> place & 1 else paper[place] for place in range(3))
                self.false(r, spoilt + (paper[3],))

    def test_another_step(self):
        for r, paper in PAPERS:
            for other in (f_times(r, f_number((2, 1))), f_plus(r, f_number(ONE)), f_moved(r, ONE)):
                self.false(other, paper)
            self.false(f_over(f_number(ONE), r), paper)

    def test_another_a_b_or_c(self):
        for r, (a, b, c, weights) in PAPERS:
            self.false(r, (p_plus(a, p_power(X, degree(a) + 1)), b, c, weights))
            self.false(r, (a, p_plus(b, p_power(X, degree(b) + 1)), c, weights))
            self.false(r, (a, b, p_times(c, line(17)), weights))
            self.false(r, (b, a, c, weights))

    def test_a_and_b_that_meet(self):
        found = 0
        for r, (a, b, c, weights) in PAPERS:
            for factor in (line(31), p_moved(CIRCLE, (40, 1))):
                # With a factor alike above and below, h = 0 meets: else all is as it was.
                more = (p_times(a, factor), p_times(b, factor), c)
                self.false(r, more + (self.weights_for(*more),))
            # The step as it stands, with 1 for c.
            plain = (r[0], r[1], UNIT)
            if any(h >= 0 for h in meets(*r)):
                found += 1
                self.false(r, plain + (self.weights_for(*plain),))
        self.assertGreater(found, 5)

    def weights_for(self, a, b, c):
        """Weights that do all that is asked of weights, where there are such."""
        top = top_of(a, b, c)
        if top is None:
            return (ONE,) if c[0] != NOUGHT else (NOUGHT,) * degree(c) + (ONE,)
        for place in range(60):
            weights = (NOUGHT,) * place + (ONE,)
            if weight_of(weights, c) and all(weight_of(weights, column(a, b, i)) == 0 for i in range(top + 1)):
                return weights
        return (ONE,)

    def test_a_meeting_alone_is_enough(self):
        # k (k + 1) / (k (k + 1)) and 1 for c: no degree is left, and yet 1 has a sum.
        both = p_times(X, NEXT)
        self.assertEqual(weight_of((ONE,), column(both, both, 0)), 0)
        self.false(f_number(ONE), (both, both, UNIT, (ONE,)))
        # The terms (k + 1)(k + 2).
        r = fraction(whole([3, 1]), NEXT)
        a, b = p_times(whole([3, 1]), CIRCLE), p_times(NEXT, p_moved(CIRCLE, (-1, 1)))
        self.false(fraction(a, b), (a, b, UNIT, (ONE,)))
        self.false(r, (whole([3, 1]), NEXT, UNIT, (ONE,)))

    def test_weights_that_weigh_nothing_with_c(self):
        for r, (a, b, c, weights) in PAPERS:
            for other in ((), (NOUGHT,), (NOUGHT,) * 40, (NOUGHT,) * len(c) + (ONE,)):
                self.false(r, (a, b, c, other))
            if degree(c) > 0:
                turned = (c[1], lowest(-c[0][0], c[0][1]))
                self.assertEqual(weight_of(turned, c), 0)
                self.false(r, (a, b, c, turned))

    def test_weights_that_fail_one_power(self):
        found = {}
        for r, (a, b, c, weights) in PAPERS:
            top = top_of(a, b, c)
            if top is None:
                continue
            for i in range(top + 1):
                other = failing_weights([column(a, b, j) for j in range(top + 1) if j != i], column(a, b, i), c)
                if other is not None:
                    found[i] = True
                    self.false(r, (a, b, c, other))
        self.assertEqual(sorted(found), list(range(12)))

    def test_one_weight_exchanged(self):
        chance = Random(251)
        for r, (a, b, c, weights) in PAPERS:
            for place in range(len(weights)):
                for other in (NOUGHT, (10 ** 6 + 3, 7), drawn_number(chance, 12)):
                    spoilt = (a, b, c, weights[:place] + (other,) + weights[place + 1:])
                    self.assertIs(shows_no_sum(r, spoilt), as_told(r, spoilt))
                spoilt = (a, b, c, weights[:place] + weights[place + 1:])
                self.assertIs(shows_no_sum(r, spoilt), as_told(r, spoilt))
                spoilt = (a, b, c, weights[:place])
                self.assertIs(shows_no_sum(r, spoilt), as_told(r, spoilt))

    def test_one_weight_exchanged_tells(self):
        found = 0
        for r, (a, b, c, weights) in PAPERS:
            top = top_of(a, b, c)
            if top is None:
                continue
            for place in range(len(weights)):
                if any(number_of(column(a, b, i), place) != NOUGHT for i in range(top + 1)):
                    other = lowest(weights[place][0] + weights[place][1], weights[place][1])
                    found += 1
                    self.false(r, (a, b, c, weights[:place] + (other,) + weights[place + 1:]))
        self.assertGreater(found, 20)

    def test_other_weights_never_for_a_sum(self):
        chance = Random(252)
        for r, s in SUMS:
            a, b, c = steps_of(r)
            for weights in [paper[3] for step, paper in PAPERS]:
                self.false(r, (a, b, c, weights))
            for time in range(20):
                many = chance.randrange(1, 9)
                self.false(r, (a, b, c, tuple(drawn_number(chance, 1) for place in range(many))))
            for place in range(12):
                self.false(r, (a, b, c, (NOUGHT,) * place + (ONE,)))

    def test_other_papers_never_for_a_sum(self):
        for r, s in SUMS:
            for step, paper in PAPERS:
                self.false(r, paper)
            for factor in (X, CIRCLE, line(-2), product([X, NEXT])):
                a, b, c = steps_of(r)
                for place in range(5):
                    weights = (NOUGHT,) * place + (ONE,)
                    # The same step with more in c.
                    self.false(r, (p_times(a, factor), p_times(b, p_moved(factor, ONE)), p_times(c, factor), weights))
                    self.false(r, (r[0], r[1], UNIT, weights))

    def test_any_polynomials(self):
        chance = Random(253)
        many = polys()[:10] + [CIRCLE, SQUARE, NEXT, whole([2, 1])]
        for time in range(400):
            a, b, c = [chance.choice(many) for place in range(3)]
            weights = tuple(chance.choice([NOUGHT, ONE, (-1, 2)]) for place in range(chance.randrange(5)))
            step = f_number(ONE)
            if () not in (a, b, c):
                step = f_times(fraction(a, b), fraction(p_moved(c, ONE), c))
            self.assertIs(shows_no_sum(step, (a, b, c, weights)), as_told(step, (a, b, c, weights)))

    def test_great_degrees(self):
        # top_of is 10 ^ 11 - 1; the first weight tells at once, and so would all others.
        a, b = X, whole([10 ** 11, 1])
        self.assertEqual(top_of(a, b, UNIT), 10 ** 11 - 1)
        with self.assertRaises(TooGreat):
            summed((a, b))
        self.assertIs(shows_no_sum((a, b), (a, b, UNIT, (ONE, ONE))), False)
        # With a = k^2 and b(k - 1) = k^2 + n k all that comes is nought at 0, but c is 1 there.
        a, b = p_power(X, 2), p_moved(whole([0, 10 ** 11, 1]), ONE)
        self.assertEqual(top_of(a, b, UNIT), 10 ** 11)
        r = fraction(a, b)
        self.assertEqual(r, (a, b))
        self.assertEqual([h for h in meets(a, b) if h >= 0], [])
        self.assertIs(shows_no_sum(r, (a, b, UNIT, (ONE,))), True)
        self.assertIs(shows_no_sum(r, (a, b, UNIT, (ONE, NOUGHT, NOUGHT))), True)
        self.assertIs(shows_no_sum(r, (a, b, UNIT, (ONE, ONE))), False)

    def test_failing_far_up_alone(self):
        for many in (2, 3, 4, 5):
            weights, b = self.failing_only_at(2 * many - 1, many)
            for top in (1, many - 1, many, 2 * many - 2, 2 * many - 1, 2 * many, 2 * many + 7):
                c = p_plus(p_power(X, top + degree(b)), UNIT)
                r = f_times(fraction(UNIT, b), fraction(p_moved(c, ONE), c))
                self.assertEqual(top_of(UNIT, b, c), top)
                if top < 2 * many - 1:
                    self.true(r, (UNIT, b, c, weights))
                else:
                    self.false(r, (UNIT, b, c, weights))

    def failing_only_at(self, last, many):
        """So many weights and a b which with 1 for a fail for i = last, but for no lesser i."""
        worths = [prod(i - j for j in range(many, last)) for i in range(many)]
        weights = []
        left = worths
        while left:
            weights.append(left[0])
            left = [other - one for one, other in zip(left, left[1:])]
        B = []
        for i in reversed(range(many)):
            found = worths[i] - sum(B[m] * weights[m + i] for m in range(len(B)))
            B.append(Fraction(found, 1) / weights[-1])
        row = [(number.numerator, number.denominator) for number in B]
        return tuple((weight, 1) for weight in weights), p_moved(poly(row), ONE)


if __name__ == "__main__":
    unittest.main()
