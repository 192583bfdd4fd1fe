import unittest
from random import Random

from backslope.back import back, hermite
from backslope.backpaper import shows_form, shows_none
from backslope.forms import form_slope, settled
from backslope.fractions import f_minus, f_number, f_plus, f_poly, f_slope, fraction
from backslope.numbers import plus, times
from backslope.parts import inverse, put_into
from backslope.places import rational_roots
from backslope.polys import common, degree, p_minus, p_plus, p_power, p_scaled, p_slope, p_split, p_times
from samples import (
    CIRCLE, CUBE, HALF, NOUGHT, ONE, SQUARE, UNIT, X, ZERO, drawn_fraction, drawn_number, drawn_poly, line, polys,
    product, whole)


def drawn_forms():
    chance = Random(151)
    many = [(ZERO, ()), ((UNIT, X), ()), (ZERO, ((ONE, X),)), ((X, UNIT), (((-1, 2), line(1)), (HALF, line(-1))))]
    for time in range(8):
        R = drawn_fraction(chance, chance.randrange(-1, 3), chance.randrange(3), 1)
        rows = [(drawn_number(chance, 1), drawn_poly(chance, chance.randrange(1, 3), 1)) for row in range(time % 4)]
        many.append(settled(R, rows)[0])
    many.append(settled((whole([1, 5]), p_power(CIRCLE, 3)), [((2, 3), p_times(CIRCLE, X)), ((-4, 1), CUBE)])[0])
    many.append(settled(drawn_fraction(chance, 4, 4, 12), [(drawn_number(chance, 12), drawn_poly(chance, 4, 12))])[0])
    return many


FORMS = drawn_forms()


def drawn_wild():
    """Fractions that no form has for its slope."""
    many = [(UNIT, CIRCLE), (UNIT, SQUARE), (UNIT, p_power(CIRCLE, 3)), (UNIT, p_times(CIRCLE, SQUARE)), (whole([5, 2]), CUBE)]
    many += [f_plus(form_slope(form), (UNIT, CIRCLE)) for form in FORMS]
    many += [f_plus(form_slope(form), (whole([3, 1]), whole([-2, 0, 0, 1]))) for form in FORMS[2:8]]
    return many + [drawn_fraction(Random(152), 4, 5, 2)]


WILD = drawn_wild()
PAPERS = [(f, back(f)[1]) for f in WILD]


def as_told(f, paper):
    """What the paper must show, each thing asked one after another as the document tells it."""
    R, A, D, W, m = paper
    if D == () or D[-1] != ONE or common(D, p_slope(D)) != UNIT or f_plus(f_slope(R), fraction(A, D)) != f:
        return False
    if not degree(A) < degree(D) or W == () or W[-1] != ONE or degree(W) < 1 or p_split(D, W)[1] != ():
        return False
    if degree(m) < 1 or rational_roots(m) != []:
        return False
    return put_into(m, p_times(A, inverse(p_slope(D), W)), W) == ()


class Forms(unittest.TestCase):
    def test_the_form_itself(self):
        for form in FORMS:
            self.assertIs(shows_form(form_slope(form), form), True)

    def test_a_number_more(self):
        for form in FORMS:
            for c in (ONE, (-2, 3), (10 ** 12 - 1, 1)):
                more = (f_plus(form[0], f_number(c)), form[1])
                self.assertIs(shows_form(form_slope(form), more), True)

    def test_x_more(self):
        for form in FORMS:
            for beside in (X, whole([0, 0, 1]), (NOUGHT, (1, 10 ** 12))):
                self.assertIs(shows_form(form_slope(form), (f_plus(form[0], f_poly(beside)), form[1])), False)
            self.assertIs(shows_form(form_slope(form), (f_plus(form[0], (UNIT, line(9))), form[1])), False)

    def test_a_logarithm_spoilt(self):
        for form in FORMS:
            f = form_slope(form)
            for place, (c, v) in enumerate(form[1]):
                ahead, behind = form[1][:place], form[1][place + 1:]
                for other in (plus(c, (100, 1)), times(c, (-1, 1)), times(c, HALF)):
                    self.assertIs(shows_form(f, (form[0], ahead + ((other, v),) + behind)), False)
                self.assertIs(shows_form(f, (form[0], ahead + ((c, p_plus(v, UNIT)),) + behind)), False)
                self.assertIs(shows_form(f, (form[0], ahead + ((c, p_times(v, line(17))),) + behind)), False)
                self.assertIs(shows_form(f, (form[0], ahead + behind)), False)

    def test_a_logarithm_more(self):
        for form in FORMS:
            more = settled(form[0], list(form[1]) + [(HALF, line(17))])[0]
            self.assertIs(shows_form(form_slope(form), more), False)

    def test_another_slope(self):
        for form in FORMS:
            for other in FORMS:
                f = form_slope(other)
                self.assertIs(shows_form(f, form), f == form_slope(form))
            self.assertIs(shows_form(f_plus(form_slope(form), f_number(ONE)), form), False)
            self.assertIs(shows_form(f_plus(form_slope(form), (UNIT, CIRCLE)), form), False)


class Papers(unittest.TestCase):
    def true(self, f, paper):
        self.assertIs(shows_none(f, paper), True)
        self.assertIs(as_told(f, paper), True)

    def false(self, f, paper):
        self.assertIs(shows_none(f, paper), False)
        self.assertIs(as_told(f, paper), False)

    def test_papers_of_back(self):
        for f, paper in PAPERS:
            self.true(f, paper)

    def test_ordinary_ones(self):
        self.true((UNIT, CIRCLE), (ZERO, UNIT, CIRCLE, CIRCLE, whole([1, 0, 4])))
        self.false((UNIT, CIRCLE), (ZERO, UNIT, CIRCLE, CIRCLE, whole([-1, 0, 4])))
        self.true((UNIT, SQUARE), (ZERO, UNIT, SQUARE, SQUARE, whole([-1, 0, 8])))
        self.false((UNIT, X), (ZERO, UNIT, X, X, whole([-1, 1])))

    def test_a_number_more_in_r(self):
        for f, (R, A, D, W, m) in PAPERS:
            for c in (ONE, (-7, 3)):
                self.true(f, (f_plus(R, f_number(c)), A, D, W, m))

    def test_one_factor_of_w(self):
        f = (whole([3, 0, 0, 1]), product([CIRCLE, SQUARE, X]))
        R, A, D, W, m = back(f)[1]
        self.assertEqual(W, p_times(CIRCLE, SQUARE))
        self.true(f, (R, A, D, W, m))
        for part in (CIRCLE, SQUARE):
            self.true(f, (R, A, D, part, m))
        self.false(f, (R, A, D, p_times(CIRCLE, X), m))
        self.false(f, (R, A, D, X, m))

    def test_other_polynomials_for_m(self):
        for f, (R, A, D, W, m) in PAPERS:
            for c in ((-1, 1), (7, 3), (1, 10 ** 12)):
                self.true(f, (R, A, D, W, p_scaled(m, c)))
            for factor in (CIRCLE, SQUARE, CUBE, m):
                self.true(f, (R, A, D, W, p_times(m, factor)))

    def test_a_common_factor_above_and_below(self):
        self.false((UNIT, CIRCLE), (ZERO, X, p_times(X, CIRCLE), p_times(X, CIRCLE), whole([1, 0, 4])))
        self.true((UNIT, CIRCLE), (ZERO, X, p_times(X, CIRCLE), CIRCLE, whole([1, 0, 4])))

    def test_d_not_monic(self):
        for f, (R, A, D, W, m) in PAPERS:
            for c in ((2, 1), (-1, 1), (1, 3)):
                self.false(f, (R, p_scaled(A, c), p_scaled(D, c), W, m))

    def test_d_with_a_double_factor(self):
        for f, (R, A, D, W, m) in PAPERS:
            for factor in (D, p_power(line(13), 2)):
                self.false(f, (R, p_times(A, factor), p_times(D, factor), W, m))
        f = (UNIT, p_power(CIRCLE, 2))
        self.false(f, (ZERO, UNIT, p_power(CIRCLE, 2), CIRCLE, whole([1, 0, 4])))

    def test_another_r(self):
        for f, (R, A, D, W, m) in PAPERS:
            for beside in ((X, UNIT), (UNIT, line(3)), (UNIT, CIRCLE), ((NOUGHT, (1, 10 ** 12)), UNIT)):
                self.false(f, (f_plus(R, beside), A, D, W, m))

    def test_another_f(self):
        for f, paper in PAPERS:
            for beside in ((UNIT, UNIT), (UNIT, X), (UNIT, p_power(line(3), 2)), (UNIT, CIRCLE)):
                self.false(f_plus(f, beside), paper)
                self.false(f_minus(f, beside), paper)

    def test_another_a(self):
        for f, (R, A, D, W, m) in PAPERS:
            self.false(f, (R, p_plus(A, UNIT), D, W, m))
            self.false(f, (R, (), D, W, m))

    def test_a_of_too_great_a_degree(self):
        for f, (R, A, D, W, m) in PAPERS:
            for P in (X, whole([0, 0, 1]), whole([0, 1, 0, 1])):
                paper = (f_minus(R, f_poly(P)), p_plus(A, p_times(p_slope(P), D)), D, W, m)
                self.assertEqual(f_plus(f_slope(paper[0]), fraction(paper[1], D)), f)
                self.false(f, paper)

    def test_w_spoilt(self):
        for f, (R, A, D, W, m) in PAPERS:
            for other in (p_scaled(W, (2, 1)), p_scaled(W, (-1, 1)), UNIT, ((2, 1),), (), p_times(W, W), line(19)):
                self.false(f, (R, A, D, other, m))
            self.false(f, (R, A, D, p_plus(W, UNIT), m))
            self.false(f, (R, A, D, p_times(W, line(19)), m))

    def test_m_spoilt(self):
        for f, (R, A, D, W, m) in PAPERS:
            for other in ((), UNIT, ((-2, 3),), p_times(m, X), p_times(m, line(2, 3)), p_times(m, line(-10 ** 9, 7))):
                self.false(f, (R, A, D, W, other))
            for other in (whole([7, 0, 1]), whole([-3, 0, 1]), p_plus(m, UNIT), p_plus(m, whole([0, 0, 0, 0, 0, 0, 0, 9]))):
                self.false(f, (R, A, D, W, other))

    def test_any_polynomials(self):
        chance = Random(154)
        many = polys()[:12] + [CIRCLE, SQUARE, X, p_times(X, CIRCLE)]
        for f in WILD[:3] + [form_slope(form) for form in FORMS[:6]]:
            for time in range(60):
                A, D, W, m = [chance.choice(many) for place in range(4)]
                paper = (chance.choice([ZERO, (UNIT, X), (X, UNIT), hermite(f)[0]]), A, D, W, m)
                self.assertIs(shows_none(f, paper), as_told(f, paper))

    def test_all_noughts(self):
        for f in WILD[:3] + [ZERO, (UNIT, X)]:
            self.false(f, (ZERO, (), (), (), ()))
            R, A, D = hermite(f)
            self.false(f, (R, A, D, (), ()))
            self.false(f, (R, A, (), CIRCLE, CIRCLE))

    def test_never_where_there_is_a_form(self):
        chance = Random(155)
        likely = [CIRCLE, SQUARE, CUBE, whole([1, 0, 4]), whole([-1, 0, 8]), p_times(CIRCLE, SQUARE)]
        for form in FORMS:
            f = form_slope(form)
            R, A, D = hermite(f)
            parts = [v for c, v in form[1]] + [D, CIRCLE]
            for W in parts:
                for m in likely + [p_minus(whole([0, 1]), (c,)) for c, v in form[1]]:
                    self.false(f, (R, A, D, W, m))
            extra = chance.choice([CIRCLE, SQUARE])
            if common(D, extra) == UNIT:
                for m in likely + [p_times(X, CIRCLE)]:
                    self.false(f, (R, p_times(A, extra), p_times(D, extra), extra, m))

    def test_great_papers(self):
        chance = Random(156)
        f = drawn_fraction(chance, 8, 8, 12)
        R, A, D, W, m = back(f)[1]
        self.assertIs(shows_none(f, (R, A, D, W, m)), True)
        self.assertIs(shows_none(f, (R, A, D, W, p_plus(m, UNIT))), False)
        self.assertIs(shows_none(f, (R, A, D, W, m[:-1] + ((2, 1),))), False)


if __name__ == "__main__":
    unittest.main()
