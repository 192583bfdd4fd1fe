import unittest
from copy import deepcopy
from fractions import Fraction
from math import log
from random import Random

from backslope.forms import form_plus, form_scaled, form_slope, settled
from backslope.fractions import f_number, f_plus, f_slope, f_times, fraction
from backslope.numbers import times
from backslope.polys import p_at, p_power, p_scaled, p_slope, p_times
from samples import (
    CIRCLE, HALF, NOUGHT, ONE, UNIT, X, ZERO, drawn_fraction, drawn_number, drawn_poly, is_form, is_fraction, is_number,
    line, polys, product, whole)

# No two have a common factor.
FACTORS = (X, line(1), line(-1), line(1, 2), CIRCLE, whole([-2, 0, 1]), whole([1, 1, 0, 1]))


def sum_of_slopes(R, rows):
    total = f_slope(R)
    for c, P in rows:
        total = f_plus(total, fraction(p_scaled(p_slope(P), c), P))
    return total


def drawn_rows(chance, many):
    """Rows whose polynomials are products of powers of a few factors, with few numbers c."""
    rows = []
    for time in range(many):
        factors = [p_power(chance.choice(FACTORS), chance.randrange(1, 4)) for step in range(chance.randrange(3))]
        head = (chance.choice([1, -1, 2, -3, 5]), chance.choice([1, 1, 2, 7]))
        c = chance.choice([NOUGHT, ONE, (-1, 1), HALF, (-1, 2), (2, 3), (-3, 1)])
        rows.append((c, p_scaled(product(factors), head)))
    return rows


def row_lists():
    chance = Random(121)
    many = [drawn_rows(chance, count) for count in (1, 1, 2, 2, 2, 3, 3, 3, 4, 4, 5, 6, 8, 12)]
    for figures in (1, 12):
        many.append([(drawn_number(chance, figures), drawn_poly(chance, degree, figures)) for degree in (0, 1, 2, 4)])
    many.append([(drawn_number(chance, 12), drawn_poly(chance, 8, 12)) for time in range(2)])
    return many


ROWS = row_lists()
FRACTIONS = (ZERO, (UNIT, X), (whole([3, 0, -1]), UNIT), (X, p_power(CIRCLE, 2)), f_number((-5, 7)))


def forms():
    many = [(ZERO, ()), (FRACTIONS[1], ()), (ZERO, ((ONE, X),)), (ZERO, (((-1, 1), X),))]
    return many + [settled(FRACTIONS[place % len(FRACTIONS)], rows)[0] for place, rows in enumerate(ROWS)]


FORMS = forms()


class Case(unittest.TestCase):
    def logs(self, rows, asked):
        form, heads = settled(ZERO, rows)
        self.assertTrue(is_form(form), form)
        self.assertEqual(form, (ZERO, asked))


class Settled(Case):
    def test_no_rows(self):
        for R in FRACTIONS:
            self.assertEqual(settled(R, []), ((R, ()), ()))

    def test_ordinary_ones(self):
        self.assertEqual(settled(ZERO, [(ONE, X)]), ((ZERO, ((ONE, X),)), ((ONE, ONE),)))
        self.assertEqual(
            settled(FRACTIONS[1], [(HALF, whole([2, -4])), ((-1, 1), whole([0, 3]))]),
            ((FRACTIONS[1], (((-1, 1), X), (HALF, ((-1, 2), ONE)))), ((HALF, (4, 1)), ((-1, 1), (3, 1)))))

    def test_nought_for_c(self):
        for P in polys():
            if P != ():
                form, heads = settled(FRACTIONS[1], [(NOUGHT, P)])
                self.assertEqual(form, (FRACTIONS[1], ()))
                self.assertEqual(heads, ((NOUGHT, (abs(P[-1][0]), P[-1][1])),))
        self.logs([(ONE, X), (NOUGHT, p_times(X, CIRCLE)), (HALF, CIRCLE)], ((HALF, CIRCLE), (ONE, X)))

    def test_numbers_for_polynomials(self):
        for head in (ONE, (-1, 1), (2, 3), (-5, 1), (10 ** 12 - 2, 7)):
            size = (abs(head[0]), head[1])
            self.assertEqual(settled(ZERO, [((-3, 2), (head,))]), ((ZERO, ()), (((-3, 2), size),)))

    def test_powers(self):
        for n in range(1, 6):
            self.logs([(ONE, p_power(X, n))], (((n, 1), X),))
            self.logs([((-1, 2), p_power(CIRCLE, n))], (((-n, 2) if n % 2 else (-n // 2, 1), CIRCLE),))
        self.logs([(ONE, product([X, line(1), line(1), line(2), line(2)]))], ((ONE, X), ((2, 1), p_times(line(1), line(2)))))

    def test_common_factors(self):
        one, other = p_times(X, CIRCLE), p_times(X, line(1))
        self.logs([(ONE, one), (ONE, other)], ((ONE, p_times(CIRCLE, line(1))), ((2, 1), X)))
        self.logs([(ONE, one), ((-1, 1), other)], (((-1, 1), line(1)), (ONE, CIRCLE)))
        self.logs([(ONE, one), (HALF, other)], ((HALF, line(1)), (ONE, CIRCLE), ((3, 2), X)))
        self.logs([(ONE, p_times(X, X)), ((-2, 1), one)], (((-2, 1), CIRCLE),))

    def test_numbers_that_come_to_the_same(self):
        self.logs([(ONE, X), (ONE, CIRCLE)], ((ONE, p_times(X, CIRCLE)),))
        self.logs([(ONE, p_times(X, X)), ((2, 1), CIRCLE)], (((2, 1), p_times(X, CIRCLE)),))
        self.logs([(HALF, X), (ONE, line(1)), (HALF, X)], ((ONE, p_times(X, line(1))),))

    def test_numbers_that_come_to_nought(self):
        self.logs([(ONE, X), ((-1, 1), X)], ())
        self.logs([(HALF, p_times(X, X)), ((-1, 1), whole([0, 5]))], ())
        self.logs([(ONE, X), ((-2, 3), X), ((-1, 3), whole([0, -2]))], ())
        self.logs([(ONE, X), ((-1, 1), X), ((3, 1), X)], (((3, 1), X),))
        self.logs([(ONE, p_times(X, line(1))), ((-1, 1), X), ((-1, 1), line(1))], ())

    def test_numbers_rise(self):
        rows = [((top, bottom), line(place)) for place, (top, bottom) in enumerate(
            [(1, 2), (1, 3), (-1, 2), (2, 3), (-2, 1), (-1, 3), (10, 1), (9, 1), (-10, 1), (1, 10)])]
        form = settled(ZERO, rows)[0]
        self.assertTrue(is_form(form))
        self.assertEqual(form[1], tuple(sorted(rows, key=lambda row: Fraction(*row[0]))))

    def test_just_one_form(self):
        chance = Random(122)
        for rows in ROWS:
            form = settled(ZERO, rows)[0]
            other = list(rows)
            chance.shuffle(other)
            self.assertEqual(settled(ZERO, other)[0], form)
            self.assertEqual(settled(ZERO, [(c, p_scaled(P, (-2, 3))) for c, P in rows])[0], form)
            self.assertEqual(settled(ZERO, [(times(c, HALF), p_times(P, P)) for c, P in rows])[0], form)
            self.assertEqual(settled(ZERO, [pair for c, P in rows for pair in ((c, P), (c, X), (times(c, (-1, 1)), X))])[0], form)
            self.assertEqual(settled(form[0], list(form[1])), (form, tuple((c, ONE) for c, v in form[1])))

    def test_kinds_and_slopes(self):
        for R in FRACTIONS:
            for rows in ROWS:
                told = settled(R, rows)
                self.assertIs(type(told), tuple)
                form, heads = told
                self.assertTrue(is_form(form), form)
                self.assertEqual(form[0], R)
                self.assertEqual(form_slope(form), sum_of_slopes(R, rows))

    def test_heads(self):
        for rows in ROWS:
            heads = settled(ZERO, rows)[1]
            self.assertIs(type(heads), tuple)
            self.assertEqual(heads, tuple((c, (abs(P[-1][0]), P[-1][1])) for c, P in rows))
            self.assertTrue(all(is_number(c) and is_number(r) and r[0] > 0 for c, r in heads))

    def test_worths_with_the_heads(self):
        for rows in ROWS[:-3]:
            form, heads = settled(ZERO, rows)
            for c in ((11, 7), (-29, 13)):
                asked = sum(float(Fraction(*e)) * log(abs(Fraction(*p_at(P, c)))) for e, P in rows)
                told = sum(float(Fraction(*e)) * log(abs(Fraction(*p_at(v, c)))) for e, v in form[1])
                told += sum(float(Fraction(*e)) * log(Fraction(*r)) for e, r in heads)
                self.assertAlmostEqual(told, asked, places=6)

    def test_rows_stay(self):
        for rows in ROWS:
            kept = deepcopy(rows)
            told = settled(ZERO, rows)
            self.assertEqual(rows, kept)
            self.assertEqual(settled(ZERO, rows), told)


class Slopes(Case):
    def test_ordinary_ones(self):
        self.assertEqual(form_slope((ZERO, ())), ZERO)
        self.assertEqual(form_slope((f_number((3, 4)), ())), ZERO)
        self.assertEqual(form_slope((ZERO, ((ONE, X),))), (UNIT, X))
        self.assertEqual(form_slope(((X, UNIT), ((HALF, CIRCLE),))), (whole([1, 1, 1]), CIRCLE))
        self.assertEqual(form_slope((ZERO, (((-1, 2), line(-1)), (HALF, line(1))))), (UNIT, whole([-1, 0, 1])))
        self.assertEqual(form_slope(((UNIT, X), ((ONE, X),))), (line(1), whole([0, 0, 1])))

    def test_across(self):
        for form in FORMS:
            told = form_slope(form)
            self.assertTrue(is_fraction(told))
            self.assertEqual(told, sum_of_slopes(form[0], form[1]))

    def test_drawn_fractions(self):
        chance = Random(123)
        for figures in (1, 12):
            for place, rows in enumerate(ROWS[:8]):
                R = drawn_fraction(chance, place % 4, place % 3, figures)
                form = settled(R, rows)[0]
                self.assertEqual(form_slope(form), sum_of_slopes(R, rows))


class Reckoning(Case):
    def same(self, told, asked):
        self.assertTrue(is_form(told), told)
        self.assertEqual(told, asked)

    def test_plus_is_all_rows_together(self):
        for one in FORMS:
            for other in FORMS:
                asked = settled(f_plus(one[0], other[0]), list(one[1]) + list(other[1]))[0]
                self.same(form_plus(one, other), asked)

    def test_plus_has_both_slopes(self):
        for one in FORMS[::2]:
            for other in FORMS[1::2]:
                self.assertEqual(form_slope(form_plus(one, other)), f_plus(form_slope(one), form_slope(other)))

    def test_plus_ordinary_ones(self):
        one = ((X, UNIT), ((ONE, X),))
        self.same(form_plus(one, one), (f_plus((X, UNIT), (X, UNIT)), (((2, 1), X),)))
        self.same(form_plus(one, (ZERO, ((ONE, line(1)),))), ((X, UNIT), ((ONE, p_times(X, line(1))),)))
        self.same(form_plus(one, (ZERO, (((-1, 1), p_times(X, line(1))),))), ((X, UNIT), (((-1, 1), line(1)),)))
        self.same(form_plus(one, (ZERO, (((-1, 1), X), (ONE, line(1))))), ((X, UNIT), ((ONE, line(1)),)))

    def test_plus_nought(self):
        for form in FORMS:
            self.same(form_plus(form, (ZERO, ())), form)
            self.same(form_plus((ZERO, ()), form), form)

    def test_a_form_and_its_opposite(self):
        for form in FORMS:
            opposite = form_scaled(form, (-1, 1))
            self.same(form_plus(form, opposite), (ZERO, ()))
            self.same(form_plus(opposite, form), (ZERO, ()))
            self.same(form_plus(form, form), form_scaled(form, (2, 1)))

    def test_scaled(self):
        for form in FORMS:
            for c in (NOUGHT, ONE, (-1, 1), HALF, (-3, 7), (10 ** 12 - 1, 10 ** 12 - 3)):
                told = form_scaled(form, c)
                self.assertTrue(is_form(told), told)
                self.assertEqual(told[0], f_times(form[0], f_number(c)))
                self.assertEqual(form_slope(told), f_times(form_slope(form), f_number(c)))
                if c != NOUGHT:
                    self.assertEqual(sorted(told[1]), sorted((times(e, c), v) for e, v in form[1]))

    def test_scaled_by_nought_and_one(self):
        for form in FORMS:
            self.same(form_scaled(form, NOUGHT), (ZERO, ()))
            self.same(form_scaled(form, ONE), form)
            self.same(form_scaled(form_scaled(form, (-2, 3)), (-3, 2)), form)

    def test_scaled_below_nought_turns_the_order(self):
        form = (ZERO, (((-1, 2), X), ((1, 3), line(1)), ((2, 1), CIRCLE)))
        self.same(form_scaled(form, (-6, 1)), (ZERO, (((-12, 1), CIRCLE), ((-2, 1), line(1)), ((3, 1), X))))


if __name__ == "__main__":
    unittest.main()
