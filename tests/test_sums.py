import unittest
from fractions import Fraction
from math import comb, factorial
from random import Random

from backslope.errors import TooGreat
from backslope.fractions import f_at, f_minus, f_moved, f_number, f_over, f_plus, f_poly, f_times, fraction
from backslope.parts import meets
from backslope.polys import common, degree, p_moved, p_plus, p_power, p_scaled, p_times
from backslope.sumpaper import shows_no_sum, shows_sum
from backslope.sums import steps_of, sum_of, summed, top_of
from samples import (
    CIRCLE, CUBE, HALF, NOUGHT, ONE, SQUARE, UNIT, X, ZERO, drawn_fraction, drawn_number, drawn_poly, is_fraction,
    is_number, is_poly, line, lowest, polys, product, whole)

STARTS = (NOUGHT, ONE, (1, 2), (-2, 3), (5, 7), (10 ** 12 - 2, 7), (-(10 ** 12) + 1, 10 ** 12 - 2))


def k_and(u, more=0):
    """The polynomial k + u + more."""
    return (lowest(u[0] + more * u[1], u[1]), ONE)


def drawn_lines(chance, start, most):
    return [k_and(start, chance.randrange(most)) for place in range(chance.randrange(4))]


def step_of(F):
    """The step of the row F(0), F(1) .."""
    return f_over(f_moved(F, ONE), F)


def backwards(r):
    """The step of the row t(0), t(-1) .., where r is that of t(0), t(1) .."""
    turned = [tuple((number[0] * (-1) ** place, number[1]) for place, number in enumerate(P)) for P in r]
    return f_moved(fraction(turned[1], turned[0]), ONE)


class Case(unittest.TestCase):
    def refused(self, function, value):
        for time in range(2):
            with self.assertRaises(TooGreat) as caught:
                function(value)
            self.assertIs(type(caught.exception), TooGreat)

    def is_too_great(self, r):
        """Whether the document refuses a sum for this step."""
        if any(h > 24 for h in meets(*r)):
            return True
        top = top_of(*steps_of(r))
        return top is not None and top > 30


class Steps(Case):
    def holds(self, r):
        told = steps_of(r)
        self.assertIs(type(told), tuple)
        a, b, c = told
        self.assertTrue(all(is_poly(P) for P in told), told)
        self.assertEqual((b[-1], c[-1]), (ONE, ONE))
        self.assertEqual(fraction(p_times(a, p_moved(c, ONE)), p_times(b, c)), r)
        self.assertEqual([h for h in meets(a, b) if h >= 0], [])
        for h in range(60):
            self.assertEqual(common(a, p_moved(b, (h, 1))), UNIT)
        self.assertEqual(steps_of(r), told)
        return told

    def holds_or_refuses(self, r):
        if any(h > 24 for h in meets(*r)):
            self.refused(steps_of, r)
        else:
            self.holds(r)

    def test_ordinary_ones(self):
        self.assertEqual(self.holds(f_number((-2, 3))), (((-2, 3),), UNIT, UNIT))
        self.assertEqual(self.holds((X, UNIT)), (X, UNIT, UNIT))
        self.assertEqual(self.holds((UNIT, X)), (UNIT, X, UNIT))
        self.assertEqual(self.holds((whole([3, 1]), X)), (UNIT, UNIT, product([X, whole([1, 1]), whole([2, 1])])))
        self.assertEqual(self.holds((X, whole([3, 1]))), (X, whole([3, 1]), UNIT))
        self.assertEqual(self.holds((p_scaled(CIRCLE, (2, 1)), p_moved(CIRCLE, (-1, 1)))),
                         (whole([2]), UNIT, p_moved(CIRCLE, (-1, 1))))

    def test_two_factors_apart(self):
        for one in (X, k_and((-2, 3)), k_and((10 ** 12 - 2, 7)), CIRCLE, SQUARE, CUBE):
            for apart in range(-30, 31):
                if apart:
                    r = fraction(one, p_moved(one, (-apart, 1)))
                    if apart > 24:
                        self.refused(steps_of, r)
                    else:
                        a, b, c = self.holds(r)
                        self.assertEqual(degree(c), max(apart, 0) * degree(one))

    def test_up_to_three_factors(self):
        chance = Random(201)
        for time in range(120):
            start = chance.choice(STARTS)
            top, bottom = drawn_lines(chance, start, 31), drawn_lines(chance, start, 31)
            if time % 3 == 0:
                top.append(p_moved(CIRCLE, (chance.randrange(30), 1)))
                bottom.append(p_moved(CIRCLE, (chance.randrange(30), 1)))
            r = fraction(p_scaled(product(top), drawn_number(chance, 3) if time % 2 else ONE), product(bottom))
            if r != ZERO:
                self.holds_or_refuses(r)

    def test_alike_factors(self):
        for one in (X, CIRCLE):
            for apart in (-3, 1, 2, 24):
                for n in (2, 3):
                    self.holds(fraction(p_power(one, n), p_power(p_moved(one, (-apart, 1)), n)))
                    self.holds(fraction(p_power(one, n), p_moved(one, (-apart, 1))))
                    self.holds(fraction(one, p_power(p_moved(one, (-apart, 1)), n)))
                self.holds_or_refuses(fraction(p_times(one, p_moved(one, ONE)), p_moved(p_power(one, 2), (-apart, 1))))

    def test_a_chain(self):
        for apart in ((1, 2, 3), (3, 1, 2), (5, 5, 10), (23, 12, 1)):
            top = product([line(-h) for h in apart])
            self.holds(fraction(top, product([X, line(1), line(-2)])))
            self.holds(fraction(p_times(top, CIRCLE), product([X, X, X])))

    def test_refused_just_above(self):
        self.holds(fraction(p_times(whole([24, 1]), whole([9, 1])), p_times(X, whole([9, 2]))))
        self.refused(steps_of, fraction(p_times(whole([25, 1]), whole([9, 1])), p_times(X, whole([9, 2]))))
        self.refused(steps_of, fraction(whole([10 ** 11, 1]), X))
        # So far back it's no matter.
        self.holds(fraction(X, whole([10 ** 11, 1])))
        self.holds(fraction(X, p_times(whole([25, 1]), CIRCLE)))
        # What is alike above and below isn't there any more.
        self.holds(fraction(p_times(X, whole([25, 1])), p_times(X, whole([2, 1]))))
        # Broken ways apart don't meet.
        self.holds(fraction(whole([51, 2]), X))

    def test_drawn_steps(self):
        chance = Random(202)
        for figures in (1, 12):
            for top in range(4):
                for bottom in range(4):
                    self.holds_or_refuses(drawn_fraction(chance, top, bottom, figures))
        self.holds(drawn_fraction(chance, 8, 8, 12))

    def test_steps_of_fractions(self):
        chance = Random(203)
        for top, bottom in ((1, 0), (0, 1), (2, 3), (3, 2)):
            for figures in (1, 12):
                self.holds_or_refuses(step_of(drawn_fraction(chance, top, bottom, figures)))


def top_as_told(a, b, c):
    """The document's rule, with another kind of numbers."""
    B = [Fraction(*number) for number in p_moved(b, (-1, 1))]
    A = [Fraction(*number) for number in a]
    if len(A) != len(B) or A[-1] != B[-1]:
        found = degree(c) - max(len(A), len(B)) + 1
    else:
        n = len(A) - 1
        found = degree(c) - n + 1
        other = (B[n - 1] - A[n - 1]) / A[-1] if n > 0 else Fraction(0)
        if other.denominator == 1 and other > found:
            found = int(other)
    return found if found >= 0 else None


class Tops(unittest.TestCase):
    def holds(self, a, b, c, expected):
        self.assertEqual(top_as_told(a, b, c), expected)
        told = top_of(a, b, c)
        self.assertEqual(told, expected)
        self.assertIn(type(told), (int, type(None)))

    def test_unlike_degrees(self):
        self.holds(X, UNIT, whole([1, 2, 3, 4]), 2)
        self.holds(UNIT, X, whole([1, 2, 3, 4]), 2)
        self.holds(CIRCLE, X, CIRCLE, 0)
        self.holds(X, CUBE, CIRCLE, None)
        self.holds(CUBE, UNIT, UNIT, None)

    def test_unlike_last_numbers(self):
        self.holds(whole([2]), UNIT, UNIT, 0)
        self.holds(whole([0, -1]), X, X, 0)
        self.holds(whole([0, 2]), X, UNIT, None)
        self.holds(((1, 1), (2, 3)), whole([7, 1]), CUBE, 2)
        self.holds((NOUGHT, (10 ** 12 - 2, 10 ** 12 - 1)), X, X, 0)

    def test_n_nought(self):
        self.holds(UNIT, UNIT, UNIT, 1)
        self.holds(UNIT, UNIT, CUBE, 4)
        self.holds(((-2, 3),), ((-2, 3),), X, 2)

    def test_the_number_ahead_of_the_last(self):
        # a = k + u, b = k + v: the number is v - 1 - u.
        self.holds(X, whole([8, 1]), UNIT, 7)
        self.holds(X, whole([8, 1]), p_power(X, 6), 7)
        self.holds(X, whole([8, 1]), p_power(X, 7), 7)
        self.holds(X, whole([8, 1]), p_power(X, 8), 8)
        self.holds(X, ((17, 2), ONE), UNIT, 0)
        self.holds(X, whole([-3, 1]), UNIT, 0)
        self.holds(X, whole([10 ** 12 - 1, 1]), UNIT, 10 ** 12 - 2)
        self.holds(whole([-(10 ** 12) + 1, 1]), whole([10 ** 12 - 1, 1]), UNIT, 2 * 10 ** 12 - 3)
        self.holds(((1, 3), ONE), ((16, 3), ONE), UNIT, 4)
        self.holds(((1, 3), ONE), ((17, 3), ONE), X, 1)
        self.holds(whole([0, 2]), whole([8, 2]), UNIT, 3)
        self.holds(whole([0, 2]), whole([7, 2]), UNIT, 0)
        self.holds(whole([0, -1]), whole([-9, -1]), UNIT, 8)
        # (k + 1)^2 and b(k - 1) = k^2 + 9 k - 1.
        self.holds(whole([1, 2, 1]), p_moved(whole([-1, 9, 1]), ONE), UNIT, 7)
        self.holds(CUBE, p_moved(whole([0, 0, 5, 1]), ONE), UNIT, 5)

    def test_none(self):
        self.holds(whole([1, 0, 1]), p_moved(whole([3, 0, 1]), ONE), UNIT, 0)
        self.holds(whole([1, 1, 1]), p_moved(whole([3, 0, 1]), ONE), UNIT, None)
        self.holds(CUBE, p_moved(whole([0, 0, -2, 1]), ONE), UNIT, None)
        self.holds(CUBE, p_moved(whole([0, 0, -2, 1]), ONE), X, None)
        self.holds(CUBE, p_moved(whole([0, 0, -2, 1]), ONE), CIRCLE, 0)

    def test_drawn_ones(self):
        chance = Random(211)
        many = [P for P in polys() if P != ()]
        found = []
        for time in range(600):
            a, b, c = chance.choice(many), chance.choice(many), chance.choice(many)
            if time % 3:
                b = p_moved(p_plus(a, ((chance.randrange(1, 9), 1),)), ONE)
            if time % 3 == 2 and degree(a) > 0:
                times_last = lowest(chance.randrange(-9, 10) * a[-1][0], chance.randrange(1, 3) * a[-1][1])
                b = p_plus(b, p_scaled(p_power(X, degree(a) - 1), times_last))
            found.append(top_of(a, b, c))
            self.assertEqual(found[-1], top_as_told(a, b, c))
        self.assertIn(None, found)
        self.assertGreater(len(set(found)), 8)


class Sums(Case):
    def told(self, r):
        """The sum of a step that has one, looked at by the letter."""
        word, s = summed(r)
        self.assertEqual(word, "told")
        self.assertTrue(is_fraction(s), s)
        self.assertEqual(f_minus(f_times(f_moved(s, ONE), r), s), f_number(ONE))
        self.assertIs(shows_sum(r, s), True)
        self.assertEqual(summed(r), (word, s))
        return s

    def none(self, r):
        told = summed(r)
        self.assertEqual(told[0], "none")
        self.assertEqual(len(told), 2)
        a, b, c, weights = told[1]
        self.assertIs(type(told[1]), tuple)
        self.assertTrue(is_poly(a) and is_poly(b) and is_poly(c), told)
        self.assertIs(type(weights), tuple)
        self.assertTrue(all(is_number(weight) for weight in weights))
        self.assertIs(shows_no_sum(r, told[1]), True)
        self.assertEqual(summed(r), told)

    def walked(self, terms, s, start):
        """Whether the sums of numbers, walked one by one, come to s t."""
        total = Fraction(0)
        first = Fraction(*f_at(s, (start, 1))) * terms(start)
        for k in range(start, start + 12):
            self.assertEqual(Fraction(*f_at(s, (k, 1))) * terms(k) - first, total)
            total += terms(k)

    def either(self, r):
        if self.is_too_great(r):
            self.refused(summed, r)
            return "too great"
        word = summed(r)[0]
        if word == "told":
            self.told(r)
        else:
            self.none(r)
        return word

    def test_numbers(self):
        for c in ((2, 1), (-1, 1), HALF, (-2, 3), (10 ** 12 - 2, 7), (1, 10 ** 12), (10 ** 12, 10 ** 12 - 1)):
            s = self.told(f_number(c))
            self.assertEqual(s, f_number(lowest(c[1], c[0] - c[1])))
            self.walked(lambda k: Fraction(*c) ** k, s, 0)

    def test_one(self):
        s = self.told(f_number(ONE))
        self.assertEqual(degree(f_minus(s, (X, UNIT))[0]) < 1, True)
        self.walked(lambda k: 5, s, 0)

    def test_rising_products(self):
        for u in STARTS:
            for m in range(1, 9):
                s = self.told(fraction(k_and(u, m), k_and(u)))
                t = product([k_and(u, i) for i in range(m)])
                S = f_times(s, f_poly(t))
                self.assertEqual(f_minus(f_moved(S, ONE), S), f_poly(t))
                self.assertEqual(degree(S[0]), m + 1)
        s = self.told(fraction(k_and(ONE, 3), k_and(ONE)))
        self.walked(lambda k: (k + 1) * (k + 2) * (k + 3), s, 0)

    def test_one_over_k_and_more(self):
        for u in STARTS:
            self.none(fraction(k_and(u), k_and(u, 1)))
            for n in (2, 3, 5):
                self.none(fraction(p_power(k_and(u), n), p_power(k_and(u, 1), n)))

    def test_one_over_two_of_them(self):
        for u in STARTS:
            for m in (1, 2, 3, 7, 24, 25):
                r = fraction(p_times(k_and(u), k_and(u, m)), p_times(k_and(u, 1), k_and(u, m + 1)))
                s = self.told(r)
                start = Fraction(*u)
                if start > 0 and u != (10 ** 12 - 2, 7):
                    self.walked(lambda k: 1 / ((k + start) * (k + start + m)), s, 1)
            for m in (26, 27, 30, 10 ** 6):
                r = fraction(p_times(k_and(u), k_and(u, m)), p_times(k_and(u, 1), k_and(u, m + 1)))
                self.refused(summed, r)
            for m in (HALF, (1, 3)):
                other = lowest(u[0] * m[1] + m[0] * u[1], u[1] * m[1])
                self.none(fraction(p_times(k_and(u), k_and(other)), p_times(k_and(u, 1), k_and(other, 1))))

    def test_k_times_the_product_to_k(self):
        for u in STARTS:
            s = self.told(fraction(p_power(k_and(u, 1), 2), k_and(u)))
            self.assertEqual(s, (UNIT, k_and(u)))
            self.none(f_poly(k_and(u, 1)))
            self.none(fraction(UNIT, k_and(u, 1)))
        self.walked(lambda k: k * factorial(k), self.told(fraction(whole([1, 2, 1]), X)), 1)

    def test_binomials(self):
        for n in (0, 1, 2, 5, 12, 29, 30):
            self.none(fraction(whole([n, -1]), whole([1, 1])))
            s = self.told(fraction(whole([-n, 1]), whole([1, 1]))) if n else None
            if n > 13:
                self.walked(lambda k: (-1) ** k * comb(n, k), s, 0)
        for n in (31, 32, 1000, 10 ** 11):
            self.none(fraction(whole([n, -1]), whole([1, 1])))
            self.refused(summed, fraction(whole([-n, 1]), whole([1, 1])))
        for m in range(1, 24):
            s = self.told(fraction(whole([m + 1, 1]), whole([1, 1])))
            self.walked(lambda k: comb(k + m, m), s, 0)
        self.refused(summed, fraction(whole([26, 1]), whole([1, 1])))

    def test_turned_binomials(self):
        self.none(fraction(whole([1, 1]), whole([2, 1])))
        for m in range(2, 32):
            s = self.told(fraction(whole([1, 1]), whole([m + 1, 1])))
            self.walked(lambda k: Fraction(1, comb(k + m, m)), s, 0)
        self.refused(summed, fraction(whole([1, 1]), whole([33, 1])))
        for n in range(1, 24):
            self.told(fraction(whole([1, 1]), whole([n, -1])))
            self.told(fraction(whole([1, 1]), whole([-n, 1])))
        self.refused(summed, fraction(whole([1, 1]), whole([24, -1])))

    def test_q_to_the_k_times_k(self):
        for q in ((2, 1), (-1, 1), (-2, 3), (10 ** 12 - 2, 7)):
            s = self.told(fraction(p_scaled(whole([1, 1]), q), X))
            self.walked(lambda k: Fraction(*q) ** k * k, s, 1)
            self.none(fraction(p_scaled(X, q), whole([1, 1])))
            for P in (CIRCLE, SQUARE, CUBE, p_power(X, 8)):
                self.told(fraction(p_scaled(p_moved(P, ONE), q), P))

    def test_terms_of_polynomials(self):
        chance = Random(221)
        many = [P for P in polys() if P != ()] + [drawn_poly(chance, 8, figures) for figures in (1, 3, 12)]
        for P in many:
            s = self.told(step_of(f_poly(P)))
            S = f_times(s, f_poly(P))
            self.assertEqual(S[1], UNIT)
            self.assertEqual(degree(S[0]), degree(P) + 1)

    def test_known_sums(self):
        chance = Random(222)
        for time in range(40):
            # The row s(k + 1) t(k + 1) - s(k) t(k) has the sum s t, whatever the row t is.
            q = drawn_fraction(chance, chance.randrange(3), chance.randrange(3), 1)
            s = drawn_fraction(chance, chance.randrange(3), chance.randrange(3), 1)
            if ZERO in (q, s):
                continue
            less = f_minus(f_times(f_moved(s, ONE), q), s)
            if less != ZERO:
                r = f_times(f_over(f_moved(less, ONE), less), q)
                if self.is_too_great(r):
                    self.refused(summed, r)
                else:
                    self.assertIs(shows_sum(r, f_over(s, less)), True)
                    self.told(r)

    def test_drawn_steps(self):
        chance = Random(223)
        words = []
        for time in range(150):
            start = chance.choice(STARTS[:5])
            top, bottom = drawn_lines(chance, start, 7), drawn_lines(chance, start, 7)
            if time % 5 == 0:
                top.append(p_moved(CIRCLE, (chance.randrange(3), 1)))
                bottom.append(p_moved(CIRCLE, (chance.randrange(3), 1)))
            words.append(self.either(fraction(p_scaled(product(top), ((-1) ** (time // 3), 1)), product(bottom))))
        for figures in (1, 12):
            words.append(self.either(drawn_fraction(chance, 3, 3, figures)))
            words.append(self.either(drawn_fraction(chance, 8, 8, figures)))
        self.assertGreater(words.count("told"), 8)
        self.assertGreater(words.count("none"), 8)

    def test_moved_along_and_told_backwards(self):
        chance = Random(224)
        words = []
        for time in range(80):
            start = chance.choice(STARTS[:5])
            top, bottom = drawn_lines(chance, start, 6), drawn_lines(chance, start, 6)
            r = fraction(p_scaled(product(top), ((-1) ** (time // 4), 1)), product(bottom))
            if not self.is_too_great(r):
                words.append(summed(r)[0])
                for c in (ONE, (-5, 1), (10 ** 6, 1), (1, 3)):
                    self.assertEqual(summed(f_moved(r, c))[0], words[-1])
                turned = backwards(r)
                self.assertEqual(backwards(turned), r)
                if not self.is_too_great(turned):
                    self.assertEqual(summed(turned)[0], words[-1])
        self.assertEqual(set(words), {"told", "none"})

    def test_moved_along(self):
        for r in (f_number((2, 1)), f_number(ONE), fraction(whole([1, 2, 1]), X), fraction(X, whole([2, 1]))):
            s = self.told(r)
            self.assertIs(shows_sum(f_moved(r, (7, 1)), f_moved(s, (7, 1))), True)

    def test_the_greatest_degree(self):
        for u in (NOUGHT, (1, 3), (123456789012, 98765432101)):
            self.told(fraction(k_and(u), k_and(u, 31)))
            self.refused(summed, fraction(k_and(u), k_and(u, 32)))
            self.none(fraction(p_times(k_and(u), CIRCLE), p_times(k_and(u, 31), p_moved(SQUARE, (1, 1)))))

    def test_greatest_degrees_of_no_sum(self):
        for last in (29, 30, 31):
            r = fraction(whole([5, 0, 1]), p_moved(whole([3, last, 1]), ONE))
            self.assertEqual(top_of(*steps_of(r)), last)
            if last > 30:
                self.refused(summed, r)
            else:
                self.either(r)

    def test_twelve_figures_far_up(self):
        chance = Random(225)
        a = drawn_poly(chance, 4, 12)[:-1] + (ONE,)
        B = drawn_poly(chance, 4, 12)[:-2] + (lowest(a[3][0] + 30 * a[3][1], a[3][1]), ONE)
        r = fraction(a, p_moved(B, ONE))
        self.assertEqual(top_of(*steps_of(r)), 30)
        self.none(r)


class SumsOf(Case):
    def told(self, F):
        word, S = sum_of(F)
        self.assertEqual(word, "told")
        self.assertTrue(is_fraction(S), S)
        self.assertEqual(f_minus(f_moved(S, ONE), S), F)
        self.assertEqual(sum_of(F), (word, S))
        return S

    def none(self, F):
        told = sum_of(F)
        self.assertEqual(told[0], "none")
        self.assertEqual(told, summed(step_of(F)))
        self.assertIs(shows_no_sum(step_of(F), told[1]), True)
        self.assertEqual(sum_of(F), told)

    def same_but_for_a_number(self, one, other):
        self.assertLess(degree(f_minus(one, other)[0]), 1)
        self.assertEqual(f_minus(one, other)[1], UNIT)

    def test_ordinary_ones(self):
        self.same_but_for_a_number(self.told(f_number((3, 1))), (whole([0, 3]), UNIT))
        self.same_but_for_a_number(self.told((X, UNIT)), ((NOUGHT, (-1, 2), (1, 2)), UNIT))
        self.same_but_for_a_number(self.told((UNIT, whole([0, 1, 1]))), (whole([-1]), X))
        self.none((UNIT, X))
        self.none((UNIT, CIRCLE))
        self.none((X, CIRCLE))

    def test_polynomials(self):
        chance = Random(231)
        for P in [P for P in polys() if P != ()] + [drawn_poly(chance, 8, figures) for figures in (1, 12)]:
            self.assertEqual(degree(self.told(f_poly(P))[0]), degree(P) + 1)

    def test_known_sums(self):
        chance = Random(232)
        for time in range(30):
            S = drawn_fraction(chance, chance.randrange(4), chance.randrange(4), 1 + time % 3)
            F = f_minus(f_moved(S, ONE), S)
            if F != ZERO:
                self.same_but_for_a_number(self.told(F), S)
        for figures in (1, 12):
            S = drawn_fraction(chance, 4, 4, figures)
            self.same_but_for_a_number(self.told(f_minus(f_moved(S, ONE), S)), S)

    def test_no_sums(self):
        chance = Random(233)
        for u in STARTS:
            for n in (1, 2, 3):
                F = (UNIT, p_power(k_and(u), n))
                self.none(F)
                S = drawn_fraction(chance, 1, 1, 1)
                self.none(f_plus(F, f_minus(f_moved(S, ONE), S)))
        self.none(drawn_fraction(chance, 8, 8, 12))

    def test_ways_apart(self):
        for u in STARTS[:5]:
            for m in (1, 2, 24, 25):
                self.told((UNIT, p_times(k_and(u), k_and(u, m))))
            for m in (26, 30):
                self.refused(sum_of, (UNIT, p_times(k_and(u), k_and(u, m))))

    def test_sums_of_two(self):
        chance = Random(234)
        with_sum = [(UNIT, p_times(X, whole([2, 1]))), (X, UNIT), f_number((2, 3)), fraction(UNIT, whole([-1, 0, 4]))]
        without = [fraction(UNIT, whole([1, 3])), (UNIT, p_times(X, X)), (X, CIRCLE)]
        for one in with_sum:
            for other in with_sum:
                both = f_plus(one, f_times(f_number((5, 7)), other))
                apart = f_plus(self.told(one), f_times(f_number((5, 7)), self.told(other)))
                self.same_but_for_a_number(self.told(both), apart)
            for other in without:
                self.none(f_plus(one, other))
        for one in without:
            for other in without:
                self.none(f_plus(one, f_times(f_number((5, 7)), other)))
                # What is only moved along goes out against itself.
                self.told(f_minus(f_moved(one, (chance.randrange(1, 5), 1)), one))

    def test_refused_by_the_degree(self):
        # The bottom's two places lie 20 apart, twice: c is of degree 38 and more.
        F = (UNIT, p_power(p_times(X, whole([20, 1])), 2))
        self.assertTrue(self.is_too_great(step_of(F)))
        self.refused(sum_of, F)
        F = (UNIT, p_power(p_times(X, whole([10, 1])), 2))
        self.assertFalse(self.is_too_great(step_of(F)))
        self.none(F)


if __name__ == "__main__":
    unittest.main()
