import unittest
from fractions import Fraction
from random import Random

from backslope.back import back, hermite, residue_parts
from backslope.backpaper import shows_none
from backslope.forms import form_slope, settled
from backslope.fractions import f_minus, f_plus, f_slope, fraction
from backslope.numbers import plus
from backslope.polys import common, degree, p_minus, p_plus, p_power, p_scaled, p_slope, p_split, p_times
from samples import (
    CIRCLE, CUBE, HALF, NOUGHT, ONE, SQUARE, UNIT, X, ZERO, drawn_fraction, drawn_number, drawn_poly, drawn_whole,
    is_form, is_fraction, is_number, is_poly, line, lowest, polys, product, whole)

RATIONAL = (X, line(1), line(-3, 2))
# Fractions with no logarithm of the told kind: A over D, the residues at all places of D are no numbers.
WILD = (
    (UNIT, CIRCLE), (UNIT, SQUARE), (whole([3]), whole([1, 1, 1])), (whole([1, 1]), CIRCLE), (UNIT, whole([-2, 0, 0, 1])),
    (whole([5, 2]), CUBE), (whole([0, 1]), whole([1, 0, 0, 0, 1])), (((2, 3),), ((-1, 3), NOUGHT, ONE)),
    (UNIT, p_times(CIRCLE, SQUARE)), (whole([1]), whole([10 ** 12 - 1, 0, 1])))


def slope_of(pairs):
    """A and D, without a common factor, of the sum of c times the slope of log v, no two v with a common factor."""
    D = product([v for c, v in pairs])
    A = ()
    for c, v in pairs:
        A = p_plus(A, p_scaled(p_times(p_slope(v), p_split(D, v)[0]), c))
    return A, D


def drawn_pairs(chance, many, figures):
    return [(drawn_number(chance, figures), drawn_poly(chance, chance.randrange(1, 4), figures)) for time in range(many)]


def drawn_forms():
    chance = Random(141)
    many = [(ZERO, ()), ((UNIT, X), ()), ((whole([1, 2, 3]), UNIT), ((ONE, X),)), (ZERO, ((HALF, CIRCLE),))]
    for time in range(12):
        R = drawn_fraction(chance, chance.randrange(-1, 4), chance.randrange(4), 1)
        many.append(settled(R, drawn_pairs(chance, time % 4, 1))[0])
    for bottom in (p_power(X, 3), p_times(p_power(CIRCLE, 2), line(1)), p_power(SQUARE, 4), p_times(CUBE, CUBE)):
        R = fraction(drawn_poly(chance, 3, 1), bottom)
        many.append(settled(R, [((2, 3), bottom), ((-1, 1), X)])[0])
        many.append(settled(R, [(HALF, p_times(CIRCLE, line(5))), ((-7, 3), line(2))])[0])
    many.append(settled(drawn_fraction(chance, 3, 3, 12), drawn_pairs(chance, 2, 12))[0])
    many.append(settled(drawn_fraction(chance, 8, 8, 12), [(drawn_number(chance, 12), drawn_poly(chance, 8, 12))])[0])
    return many


FORMS = drawn_forms()


class Case(unittest.TestCase):
    def same_but_for_a_number(self, one, other):
        self.assertLess(degree(f_minus(one, other)[0]), 1)
        self.assertEqual(f_minus(one, other)[1], UNIT)


class Hermite(Case):
    def holds(self, f):
        told = hermite(f)
        self.assertIs(type(told), tuple)
        R, A, D = told
        self.assertTrue(is_fraction(R) and is_poly(A) and is_poly(D), told)
        self.assertEqual(D[-1], ONE)
        self.assertEqual(common(D, p_slope(D)), UNIT)
        self.assertEqual(common(A, D), UNIT)
        self.assertLess(degree(A), degree(D))
        self.assertEqual(f_plus(f_slope(R), fraction(A, D)), f)
        self.assertEqual(hermite(f), told)
        return told

    def test_nought_and_numbers(self):
        R, A, D = self.holds(ZERO)
        self.same_but_for_a_number(R, ZERO)
        self.assertEqual((A, D), ((), UNIT))
        for c in (ONE, (-2, 3), (10 ** 12 - 2, 7)):
            R, A, D = self.holds(((c,), UNIT))
            self.same_but_for_a_number(R, ((NOUGHT, c), UNIT))
            self.assertEqual((A, D), ((), UNIT))

    def test_polynomials(self):
        for P in polys():
            R, A, D = self.holds((P, UNIT))
            self.assertEqual((A, D), ((), UNIT))
            self.assertEqual(R[1], UNIT)
        R, A, D = self.holds((whole([1, 2, 3]), UNIT))
        self.same_but_for_a_number(R, (whole([0, 1, 1, 1]), UNIT))

    def test_ordinary_ones(self):
        R, A, D = self.holds((UNIT, X))
        self.same_but_for_a_number(R, ZERO)
        self.assertEqual((A, D), (UNIT, X))
        R, A, D = self.holds(fraction(whole([1, 1]), p_power(X, 2)))
        self.same_but_for_a_number(R, (whole([-1]), X))
        self.assertEqual((A, D), (UNIT, X))
        R, A, D = self.holds((UNIT, p_power(CIRCLE, 2)))
        self.same_but_for_a_number(R, ((NOUGHT, HALF), CIRCLE))
        self.assertEqual((A, D), ((HALF,), CIRCLE))
        R, A, D = self.holds((whole([0, 0, 0, 1]), CIRCLE))
        self.same_but_for_a_number(R, ((NOUGHT, NOUGHT, HALF), UNIT))
        self.assertEqual((A, D), (whole([0, -1]), CIRCLE))

    def test_slopes_of_fractions(self):
        for form in FORMS:
            R, A, D = self.holds(f_slope(form[0]))
            self.same_but_for_a_number(R, form[0])
            self.assertEqual((A, D), ((), UNIT))

    def test_powers_below(self):
        chance = Random(142)
        for one in (X, line(-3, 2), CIRCLE, SQUARE, CUBE):
            for n in range(1, 5):
                for top in (UNIT, drawn_poly(chance, 2, 1), drawn_poly(chance, 6, 2)):
                    self.holds(fraction(top, p_power(one, n)))
                    self.holds(fraction(top, p_times(p_power(one, n), p_power(line(7), 5 - n))))
        self.holds(fraction(whole([1, 5, 2]), product([X, p_power(line(1), 2), p_power(CIRCLE, 3), p_power(SQUARE, 4)])))

    def test_what_has_no_logarithm_falls_away_below(self):
        f = f_plus((UNIT, X), f_slope((UNIT, p_times(X, line(1)))))
        R, A, D = self.holds(f)
        self.assertEqual((A, D), (UNIT, X))
        f = f_plus((whole([7]), CIRCLE), f_slope((X, p_power(p_times(SQUARE, CIRCLE), 3))))
        self.assertEqual(self.holds(f)[1:], (whole([7]), CIRCLE))

    def test_known_rests(self):
        for form in FORMS[:8]:
            for A, D in WILD:
                R, told, bottom = self.holds(f_plus(f_slope(form[0]), (A, D)))
                self.same_but_for_a_number(R, form[0])
                self.assertEqual((told, bottom), (A, D))

    def test_drawn_ones(self):
        chance = Random(143)
        for figures in (1, 12):
            for top, bottom in ((0, 1), (3, 2), (2, 4), (8, 8)):
                self.holds(drawn_fraction(chance, top, bottom, figures))
                Q = drawn_poly(chance, min(bottom, 4), figures)
                self.holds(fraction(drawn_poly(chance, top, figures), p_times(Q, Q)))


class Residues(Case):
    def parted(self, A, D, rows, W):
        told = residue_parts(A, D)
        self.assertEqual(told, (tuple(rows), W))
        self.assertIs(type(told), tuple)
        self.assertTrue(all(type(row) is tuple and is_number(row[0]) and is_poly(row[1]) for row in told[0]))
        self.assertTrue(is_poly(told[1]))

    def by_pairs(self, pairs, W=UNIT, beside=((), UNIT)):
        """Residues of the pairs' slope and of what stands beside it, where no residue is a number."""
        rows = settled(ZERO, pairs)[0][1]
        f = fraction(*slope_of(rows))
        f = f_plus(f, beside)
        self.parted(f[0], f[1], rows, W)

    def test_degree_nought(self):
        self.parted((), UNIT, (), UNIT)

    def test_ordinary_ones(self):
        self.parted(UNIT, X, [(ONE, X)], UNIT)
        self.parted(UNIT, whole([-1, 0, 1]), [((-1, 2), line(-1)), (HALF, line(1))], UNIT)
        self.parted(whole([0, 2]), CIRCLE, [(ONE, CIRCLE)], UNIT)
        self.parted(whole([1, 2]), CIRCLE, [], CIRCLE)
        self.parted(whole([1, 1, 2]), p_times(X, CIRCLE), [(ONE, X)], CIRCLE)
        self.parted(whole([2, 1]), p_times(X, line(-1)), [((-1, 1), line(-1)), ((2, 1), X)], UNIT)

    def test_all_of_them_numbers(self):
        self.by_pairs([(ONE, X), ((2, 1), line(1)), ((3, 1), CIRCLE), ((-4, 1), CUBE)])
        self.by_pairs([(HALF, X), ((-1, 2), line(1)), ((1, 3), SQUARE), ((-7, 3), CUBE), ((5, 6), CIRCLE)])
        self.by_pairs([(ONE, product([X, line(1), line(2), CIRCLE, CUBE]))])

    def test_one_number_at_many_places(self):
        self.parted(p_slope(p_times(CUBE, SQUARE)), p_times(CUBE, SQUARE), [(ONE, p_times(CUBE, SQUARE))], UNIT)

    def test_none_of_them_numbers(self):
        for A, D in WILD:
            self.parted(A, D, [], D)

    def test_some_of_them_numbers(self):
        for A, W in WILD:
            self.by_pairs([(HALF, X), ((-3, 1), line(4))], W, (A, W))
            self.by_pairs([((7, 5), whole([3, 0, 0, 1]))], W, (A, W))

    def test_rising_by_c(self):
        numbers = [(1, 2), (1, 3), (-1, 2), (-1, 3), (10, 1), (9, 1), (-10, 1), (-9, 1), (2, 3), (0, 1)]
        pairs = [(c, line(place)) for place, c in enumerate(numbers) if c != NOUGHT]
        rows = residue_parts(*slope_of(pairs))[0]
        self.assertEqual([c for c, v in rows], sorted((c for c, v in pairs), key=lambda c: Fraction(*c)))

    def test_nine_figures_over_three(self):
        chance = Random(144)
        for many in (1, 2, 5, 8):
            pairs = []
            for place in range(many):
                c = lowest(chance.choice([1, -1]) * chance.randrange(10 ** 8, 10 ** 9), chance.randrange(100, 1000))
                pairs.append((c, drawn_poly(chance, 1 + place % 2, 3, drawn_whole)))
            self.by_pairs(pairs)
            self.by_pairs(pairs, CIRCLE, (whole([2, 5]), CIRCLE))

    def test_twelve_figures(self):
        chance = Random(145)
        self.by_pairs([(drawn_number(chance, 12), drawn_poly(chance, 8, 12)) for time in range(2)])
        A, D = drawn_poly(chance, 7, 12), drawn_poly(chance, 8, 12)
        A, D = fraction(A, D)
        self.parted(A, D, [], D)

    def test_numbers_that_are_near(self):
        c = (10 ** 9, 1)
        self.by_pairs([(c, X), (plus(c, (1, 999)), line(1)), (plus(c, (1, 998)), CIRCLE)])

    def test_alike_modulo_a_great_prime(self):
        for prime in (2 ** 127 - 1, 2 ** 31 - 1):
            self.by_pairs([(ONE, X), ((prime + 1, 1), line(1)), ((-prime, 1), line(3))])
            self.by_pairs([(ONE, X), ((2, 1), line(prime)), ((-2, 1), CIRCLE)])
            self.by_pairs([((1, prime), X), ((2, prime), line(1, prime)), (ONE, CIRCLE)])
            self.by_pairs([((prime, 1), X), ((-prime, 1), line(1))], CIRCLE, (whole([prime]), CIRCLE))
            self.by_pairs([((prime, 1), X)], SQUARE, (UNIT, SQUARE))

    def test_as_told(self):
        chance = Random(146)
        for time in range(40):
            D = p_times(chance.choice(RATIONAL), product(chance.sample([CIRCLE, SQUARE, line(5), line(7)], 2)))
            A, D = fraction(drawn_poly(chance, 3, 1), D)
            if degree(D) > 0 and degree(A) < degree(D):
                rows, W = residue_parts(A, D)
                for c, v in rows:
                    self.assertEqual(common(D, p_minus(A, p_scaled(p_slope(D), c))), v)
                self.assertEqual(product([v for c, v in rows] + [W]), D)
                for place in (X, line(1), line(-3, 2), line(5), line(7)):
                    if p_split(D, place)[1] == ():
                        self.assertNotEqual(p_split(W, place)[1], ())


class Back(Case):
    def told(self, f, form):
        word, found = back(f)
        self.assertEqual(word, "told")
        self.assertTrue(is_form(found), found)
        self.assertEqual(found[1], form[1])
        self.same_but_for_a_number(found[0], form[0])
        self.assertEqual(form_slope(found), f)

    def none(self, f):
        told = back(f)
        self.assertEqual((type(told), told[0], len(told)), (tuple, "none", 2))
        self.assertEqual((type(told[1]), len(told[1])), (tuple, 5))
        self.assertTrue(is_fraction(told[1][0]) and all(is_poly(P) for P in told[1][1:]), told)
        self.assertIs(shows_none(f, told[1]), True)

    def test_ordinary_ones(self):
        self.told(ZERO, (ZERO, ()))
        self.told((UNIT, UNIT), ((X, UNIT), ()))
        self.told((UNIT, X), (ZERO, ((ONE, X),)))
        self.told((UNIT, p_power(X, 2)), ((whole([-1]), X), ()))
        self.told((whole([0, 1]), CIRCLE), (ZERO, ((HALF, CIRCLE),)))
        self.told((UNIT, whole([-1, 0, 1])), (ZERO, (((-1, 2), line(-1)), (HALF, line(1)))))
        self.none((UNIT, CIRCLE))
        self.none((UNIT, SQUARE))

    def test_slopes_of_forms(self):
        for form in FORMS:
            self.told(form_slope(form), form)

    def test_polynomials(self):
        for P in polys():
            word, form = back((P, UNIT))
            self.assertEqual((word, form[1], form[0][1]), ("told", (), UNIT))
            self.assertEqual(p_slope(form[0][0]), P)

    def test_wild_parts(self):
        for A, D in WILD:
            self.none((A, D))
            for form in FORMS[:14]:
                self.none(f_plus(form_slope(form), (A, D)))

    def test_wild_parts_over_powers(self):
        for A, D in WILD[:6]:
            self.none(f_plus((A, D), f_slope((whole([1, 3]), p_power(D, 2)))))
            self.none(f_plus((A, D), (p_slope(D), D)))
        for n in range(1, 5):
            self.none((UNIT, p_power(CIRCLE, n)))
            self.none((UNIT, p_power(SQUARE, n)))

    def test_one_or_the_other(self):
        chance = Random(147)
        words = []
        for figures in (1, 2, 12):
            for top in range(-1, 5):
                for bottom in range(5):
                    f = drawn_fraction(chance, top, bottom, figures)
                    words.append(back(f)[0])
                    if words[-1] == "told":
                        form = back(f)[1]
                        self.assertTrue(is_form(form))
                        self.assertEqual(form_slope(form), f)
                    else:
                        self.none(f)
        self.assertEqual(set(words), {"told", "none"})

    def test_degree_eight_with_twelve_figures(self):
        chance = Random(148)
        self.none(drawn_fraction(chance, 8, 8, 12))
        self.none(drawn_fraction(chance, 7, 8, 12, drawn_whole))

    def test_many_logarithms(self):
        form = settled(ZERO, [((n - 12, n), line(n)) for n in range(1, 25)])[0]
        self.told(form_slope(form), form)
        self.none(f_plus(form_slope(form), (UNIT, p_times(CIRCLE, SQUARE))))

    def test_asked_again(self):
        for f in ((UNIT, CIRCLE), (UNIT, X), form_slope(FORMS[-1])):
            self.assertEqual(back(f), back(f))


if __name__ == "__main__":
    unittest.main()
