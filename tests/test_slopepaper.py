import unittest
from random import Random

from backslope.back import back
from backslope.backpaper import shows_none
from backslope.errors import TooGreat
from backslope.forms import form_plus, form_slope
from backslope.fractions import f_minus, f_number, f_plus, f_poly, f_times
from backslope.numbers import plus
from backslope.parts import inverse, put_into, simple_parts
from backslope.places import rational_roots
from backslope.polys import degree, number_of, p_minus, p_plus, p_power, p_scaled, p_slope, p_split, p_times
from backslope.slopepaper import shows_no_solution, shows_only, shows_solution
from backslope.slopes import bottom_of, hold_of, reduced, solve, top_for
from samples import (
    CIRCLE, CUBE, HALF, NOUGHT, ONE, SQUARE, UNIT, X, ZERO, drawn_fraction, drawn_number, drawn_poly, failing_weights,
    left_side, line, lowest, polys, product, weight_of, weights_by, whole)

GREAT = 10 ** 9 + 7


def of_pieces(pairs, P=()):
    """The fraction with the residues c at all places of v, and a polynomial."""
    return form_slope((ZERO, tuple(pairs))) if P == () else f_plus(f_poly(P), of_pieces(pairs))


def column(p, q, i):
    """What x ^ i comes to: p i x ^ (i - 1) + q x ^ i."""
    return p_plus(p_times(p, p_slope(p_power(X, i))), p_times(q, p_power(X, i)))


def as_told(f, g, paper):
    """What the paper must show, each thing asked one after another as the document tells it."""
    rows, W, m, weights = paper
    F, E = f
    wholes = [rho for rho, v in rows]
    if any(rho < 1 for rho in wholes) or len(set(wholes)) != len(wholes):
        return False
    factors = [v for rho, v in rows] + [W]
    if any(P == () or P[-1] != ONE for P in factors) or product(factors) != (simple_parts(E) + [UNIT])[0]:
        return False
    if any(p_split(p_minus(F, p_scaled(p_slope(E), (rho, 1))), v)[1] != () for rho, v in rows):
        return False
    if degree(W) > 0:
        if degree(m) < 1 or any(c[0] > 0 and c[1] == 1 for c in rational_roots(m)):
            return False
        if put_into(m, p_times(F, inverse(p_slope(E), W)), W) != ():
            return False
    return weights_as_told(f, g, rows, weights)


def weights_as_told(f, g, rows, weights):
    p, q, s = reduced(f, g, bottom_of(g, rows))
    if weight_of(weights, s) == 0:
        return False
    top = top_for(p, q, s)
    return top is None or all(weight_of(weights, column(p, q, i)) == 0 for i in range(top + 1))


def columns_and_s(f, g, rows):
    p, q, s = reduced(f, g, bottom_of(g, rows))
    top = top_for(p, q, s)
    return [column(p, q, i) for i in range(0 if top is None else top + 1)] + [s]


def drawn_sides():
    """Pairs f, y."""
    chance = Random(281)
    many = [(ZERO, (UNIT, X)), ((X, UNIT), (X, UNIT)), ((UNIT, X), (UNIT, p_power(X, 3))), ((UNIT, CIRCLE), (X, line(1)))]
    factors = (X, line(1), line(-2), CIRCLE, SQUARE, ((-1, 3), ONE))
    residues = [(n, 1) for n in (1, 2, 3, -1, -2)] + [HALF, (-5, 2)]
    for time in range(14):
        pairs = [(chance.choice(residues), v) for v in chance.sample(factors, 1 + time % 3)]
        f = f_plus(of_pieces(pairs), f_poly(drawn_poly(chance, chance.choice((-1, 0, 1)), 1)))
        if time % 3 == 0:
            f = f_plus(f, (UNIT, whole([7, 0, 1])))
        if time % 4 == 0:
            f = f_plus(f, (UNIT, p_power(line(5), 2)))
        many.append((f, drawn_fraction(chance, chance.randrange(3), chance.randrange(2), 1)))
    many.append((drawn_fraction(chance, 3, 3, 12), drawn_fraction(chance, 2, 2, 12)))
    return many


def answered(sides, word):
    found = []
    for f, g in sides:
        try:
            told = solve(f, g)
        except TooGreat:
            continue
        if told[0] == word:
            found.append((f, g, told))
    return found


SIDES = drawn_sides()
SOLVED = answered([(f, left_side(f, y)) for f, y in SIDES], "told")
# A simple pole where neither side has one; and the ordinary ones without a solution.
UNSOLVED = [(f, f_plus(left_side(f, y), (UNIT, line(17)))) for f, y in SIDES]
UNSOLVED += [((X, UNIT), (UNIT, UNIT)), ((UNIT, UNIT), (UNIT, X)), (f_poly(CUBE), f_poly(CUBE[:2])), (ZERO, (X, CIRCLE))]
UNSOLVED += [(of_pieces([((-4, 1), X)]), f_poly(p_power(X, 3))), (of_pieces([((-9, 1), CIRCLE)], (ONE,)), (UNIT, UNIT))]
PAPERS = [(f, g, told[1]) for f, g, told in answered(UNSOLVED, "none")]


class Solutions(unittest.TestCase):
    def test_samples(self):
        self.assertGreaterEqual(len(SOLVED), 17)
        self.assertGreaterEqual(len(PAPERS), 20)
        self.assertGreaterEqual(len([paper for f, g, paper in PAPERS if len(paper[0]) > 0]), 8)
        self.assertGreaterEqual(len([paper for f, g, paper in PAPERS if len(paper[0]) > 1]), 2)
        self.assertGreaterEqual(len([paper for f, g, paper in PAPERS if degree(paper[1]) > 0]), 8)

    def test_the_solution(self):
        for f, y in SIDES:
            self.assertIs(shows_solution(f, left_side(f, y), y), True)
        for f, g, (word, y, u, why) in SOLVED:
            self.assertIs(shows_solution(f, g, y), True)
            if u is not None:
                for c in (ONE, (-2, 3), (10 ** 12 - 1, 7)):
                    self.assertIs(shows_solution(f, g, f_plus(y, f_times(f_number(c), u))), True)

    def test_ordinary_ones(self):
        self.assertIs(shows_solution(ZERO, ZERO, ZERO), True)
        self.assertIs(shows_solution(ZERO, ZERO, f_number((5, 7))), True)
        self.assertIs(shows_solution(ZERO, ZERO, (X, UNIT)), False)
        self.assertIs(shows_solution((UNIT, X), (whole([2]), UNIT), (X, UNIT)), True)
        self.assertIs(shows_solution((UNIT, X), (whole([3]), UNIT), (X, UNIT)), False)
        self.assertIs(shows_solution((X, UNIT), (UNIT, UNIT), ZERO), False)

    def test_another_one(self):
        chance = Random(282)
        for f, y in SIDES:
            g = left_side(f, y)
            for beside in ((UNIT, line(17)), (X, UNIT), (UNIT, p_power(X, 9)), drawn_fraction(chance, 1, 1, 12)):
                self.assertIs(shows_solution(f, g, f_plus(y, beside)), left_side(f, beside) == ZERO)
            self.assertIs(shows_solution(f_plus(f, (UNIT, UNIT)), g, y), False)
            for beside in ((UNIT, UNIT), (UNIT, X), ((NOUGHT, (1, 10 ** 12)), UNIT)):
                self.assertIs(shows_solution(f, f_minus(g, beside), y), False)

    def test_none_where_there_is_none(self):
        chance = Random(283)
        for f, g, paper in PAPERS:
            for y in [ZERO, g, f] + [drawn_fraction(chance, 1, 1, 1) for time in range(4)]:
                self.assertIs(shows_solution(f, g, y), False)


class Only(unittest.TestCase):
    def only(self, f, why, asked):
        self.assertIs(shows_only(f, why), asked)

    def test_what_is_told(self):
        found = 0
        for f, g, (word, y, u, why) in SOLVED:
            self.only(f, back(f), u is None)
            if why is not None:
                found += 1
                self.only(f, why, True)
                self.only(f_plus(f, (UNIT, line(17))), why, False)
            else:
                self.only(f, why, False)
        self.assertGreater(found, 8)
        self.assertLess(found, len(SOLVED))

    def test_whole_numbers_alone(self):
        for R in (ZERO, f_number(ONE), f_number((-2, 3)), f_number((10 ** 12 - 1, 7))):
            for logs in ((), ((ONE, X),), (((-3, 1), CIRCLE), ((2, 1), X)), (((-GREAT, 1), line(1)), (ONE, SQUARE))):
                self.only(form_slope((R, logs)), ("told", (R, logs)), False)

    def test_a_broken_number(self):
        for R in (ZERO, f_number((-2, 3))):
            for logs in (((HALF, X),), (((-1, 3), CIRCLE), ((2, 1), X)), ((ONE, X), ((3, 2), line(1)), ((7, 1), SQUARE))):
                self.only(form_slope((R, logs)), ("told", (R, logs)), True)

    def test_r_that_is_no_number(self):
        for R in ((X, UNIT), (UNIT, X), (CUBE, UNIT), (whole([1, 1]), p_times(CIRCLE, line(5)))):
            for logs in ((), ((ONE, X),), (((-3, 1), CIRCLE), ((2, 1), X)), ((HALF, line(1)),)):
                self.only(form_slope((R, logs)), ("told", (R, logs)), True)
                for c in (ONE, (-2, 3)):
                    self.only(form_slope((R, logs)), ("told", (f_plus(R, f_number(c)), logs)), True)

    def test_another_slope(self):
        forms = [(ZERO, ((HALF, X),)), ((X, UNIT), ()), ((UNIT, X), ((ONE, X),)), (ZERO, (((-1, 3), CIRCLE), (ONE, X)))]
        for one in forms:
            for other in forms:
                self.only(form_slope(one), ("told", other), one == other)
            for beside in ((UNIT, UNIT), (UNIT, X), (UNIT, CIRCLE)):
                self.only(f_plus(form_slope(one), beside), ("told", one), False)
            more = form_plus(one, (ZERO, ((HALF, line(9)),)))
            self.only(form_slope(one), ("told", more), False)
            self.only((UNIT, CIRCLE), ("told", one), False)

    def test_papers(self):
        for f in ((UNIT, CIRCLE), (UNIT, SQUARE), f_plus((UNIT, CIRCLE), of_pieces([((3, 1), X)])), (X, p_power(CUBE, 2))):
            word, paper = back(f)
            self.assertEqual(word, "none")
            self.only(f, (word, paper), True)
            R, A, D, W, m = paper
            spoilt = [(R, A, D, W, p_times(m, X)), (R, A, D, W, ()), (R, A, D, W, p_plus(m, UNIT)), (R, A, D, UNIT, m)]
            spoilt += [(R, (), D, W, m), (f_plus(R, (X, UNIT)), A, D, W, m)]
            for other in spoilt:
                self.assertIs(shows_none(f, other), False)
                self.only(f, ("none", other), False)
            self.only(f_plus(f, (UNIT, UNIT)), (word, paper), False)

    def test_papers_where_there_is_a_form(self):
        paper = back((UNIT, CIRCLE))[1]
        for f in (ZERO, (UNIT, X), of_pieces([(ONE, CIRCLE)]), of_pieces([(HALF, CIRCLE)]), (X, UNIT)):
            self.only(f, ("none", paper), False)


def rows_without(paper, place):
    rows, W, m, weights = paper
    return rows[:place] + rows[place + 1:]


class Papers(unittest.TestCase):
    def true(self, f, g, paper):
        self.assertIs(shows_no_solution(f, g, paper), True)
        self.assertIs(as_told(f, g, paper), True)

    def false(self, f, g, paper):
        self.assertIs(shows_no_solution(f, g, paper), False)
        self.assertIs(as_told(f, g, paper), False)

    def test_papers_told(self):
        for f, g, paper in PAPERS:
            self.true(f, g, paper)

    def test_ordinary_ones(self):
        # y' + x y = 1: no degree is left for a y.
        self.true((X, UNIT), (UNIT, UNIT), ((), UNIT, (), (ONE,)))
        self.true((X, UNIT), (UNIT, UNIT), ((), UNIT, CUBE, ((-5, 7), (3, 1))))
        self.false((X, UNIT), (UNIT, UNIT), ((), UNIT, (), (NOUGHT, ONE)))
        # y' = 1 / x: x z' - z = x for y = z / x has no z, as all that comes has nought at x.
        self.true(ZERO, (UNIT, X), ((), UNIT, (), (NOUGHT, ONE)))
        self.false(ZERO, (UNIT, X), ((), UNIT, (), (ONE, ONE)))
        # y' - y / x = 1.
        f = of_pieces([((-1, 1), X)])
        self.true(f, (UNIT, UNIT), ((), X, whole([1, 1]), (NOUGHT, ONE)))
        # y' + y / x = 1 / x^2: the pole of y is allowed for, and yet there is none.
        f, g = (UNIT, X), (UNIT, p_power(X, 2))
        p, q, s = reduced(f, g, p_power(X, 3))
        self.assertEqual((p, q, s), (X, whole([-2]), p_power(X, 2)))
        self.true(f, g, (((1, X),), UNIT, (), (NOUGHT, NOUGHT, ONE)))

    def test_weights_all_times_a_number(self):
        for f, g, (rows, W, m, weights) in PAPERS:
            for number in ((2, 1), (-1, 3), (10 ** 12 - 2, 7)):
                scaled = tuple(lowest(number[0] * top, number[1] * bottom) for top, bottom in weights)
                self.true(f, g, (rows, W, m, scaled))

    def test_more_weights_than_are_wanted(self):
        for f, g, (rows, W, m, weights) in PAPERS:
            for many in (1, 2, 30):
                self.true(f, g, (rows, W, m, weights + (NOUGHT,) * many))
            p, q, s = reduced(f, g, bottom_of(g, rows))
            top = top_for(p, q, s)
            sizes = [len(column(p, q, i)) for i in range(0 if top is None else top + 1)]
            full = weights + (NOUGHT,) * max(max(sizes + [len(s)]) - len(weights), 0)
            for spare in ((ONE,), ((-2, 3), ONE), (NOUGHT, NOUGHT, (10 ** 12, 1))):
                self.true(f, g, (rows, W, m, full + spare))

    def test_rows_in_another_order(self):
        found = 0
        for f, g, (rows, W, m, weights) in PAPERS:
            self.true(f, g, (rows[::-1], W, m, weights))
            found += len(rows) > 1
        self.assertGreater(found, 1)

    def test_pairs_without_places(self):
        for f, g, (rows, W, m, weights) in PAPERS:
            free = max([0] + [rho for rho, v in rows]) + 1
            self.true(f, g, (rows + ((free, UNIT),), W, m, weights))
            self.true(f, g, (rows + ((free, UNIT), (free + 7, UNIT)), W, m, weights))
            self.assertIs(shows_no_solution(f, g, (rows + ((GREAT, UNIT),), W, m, weights)), True)
            for rho in (0, -1, -GREAT):
                self.false(f, g, (rows + ((rho, UNIT),), W, m, weights))
            self.false(f, g, (rows + ((free, UNIT), (free, UNIT)), W, m, weights))
            for rho, v in rows:
                self.false(f, g, (rows + ((rho, UNIT),), W, m, weights))

    def test_a_pair_left_out(self):
        found = 0
        for f, g, paper in PAPERS:
            rows, W, m, weights = paper
            for place in range(len(rows)):
                found += 1
                self.false(f, g, (rows_without(paper, place), W, m, weights))
        self.assertGreater(found, 8)

    def test_its_factor_given_to_w(self):
        for f, g, paper in PAPERS:
            rows, W, m, weights = paper
            for place, (rho, v) in enumerate(rows):
                others = rows_without(paper, place)
                more = p_times(W, v)
                for other in (m, p_times(m, CIRCLE), p_times(m if m else UNIT, line(rho)), line(-rho), line(rho), CUBE):
                    for weigh in (weights, self.weights_for(f, g, others)):
                        self.false(f, g, (others, more, other, weigh))

    def weights_for(self, f, g, rows):
        """Weights that do all that is asked of weights, where there are such."""
        columns = columns_and_s(f, g, rows)
        return weights_by(columns, [NOUGHT] * (len(columns) - 1) + [ONE])[0] or (ONE,)

    def test_another_whole_number_in_a_pair(self):
        found = 0
        for f, g, (rows, W, m, weights) in PAPERS:
            for place, (rho, v) in enumerate(rows):
                for other in (rho + 1, rho - 1, -rho, 0, 24, 25, 2 * rho + 1):
                    spoilt = rows[:place] + ((other, v),) + rows[place + 1:]
                    self.false(f, g, (spoilt, W, m, weights))
                    if other > 0 and len(set(rho for rho, v in spoilt)) == len(spoilt):
                        fitting = self.weights_for(f, g, spoilt)
                        self.false(f, g, (spoilt, W, m, fitting))
                        found += weights_as_told(f, g, spoilt, fitting)
                spoilt = rows[:place] + ((GREAT, v),) + rows[place + 1:]
                self.assertIs(shows_no_solution(f, g, (spoilt, W, m, weights)), False)
        # So often the weights would do.
        self.assertGreater(found, 20)

    def test_a_residue_below_nought_in_a_pair(self):
        f = of_pieces([((-2, 1), X)])
        for g in ((UNIT, line(3)), (UNIT, p_times(X, line(3)))):
            word, paper = solve(f, g)
            self.true(f, g, paper)
            self.false(f, g, (((-2, X),), UNIT, (), paper[3]))
            self.false(f, g, (((0, X),), UNIT, (), paper[3]))

    def test_two_pairs_with_one_number(self):
        f = of_pieces([((2, 1), X), ((2, 1), line(1)), ((3, 1), CIRCLE)])
        g = (UNIT, line(17))
        rows, W, m, weights = solve(f, g)[1]
        self.assertEqual(rows, ((2, p_times(X, line(1))), (3, CIRCLE)))
        self.true(f, g, (rows, W, m, weights))
        # All is as it was but for that.
        self.false(f, g, (((2, X), (2, line(1)), (3, CIRCLE)), W, m, weights))
        self.false(f, g, (((2, X), (3, line(1)), (3, CIRCLE)), W, m, weights))
        self.assertEqual(bottom_of(g, ((2, X), (2, line(1)), (3, CIRCLE))), bottom_of(g, rows))

    def test_factors_not_monic(self):
        for f, g, (rows, W, m, weights) in PAPERS:
            for c in ((2, 1), (-1, 1), (1, 3)):
                self.false(f, g, (rows, p_scaled(W, c), m, weights))
                turned = (c[1] if c[0] > 0 else -c[1], abs(c[0]))
                for place, (rho, v) in enumerate(rows):
                    spoilt = rows[:place] + ((rho, p_scaled(v, c)),) + rows[place + 1:]
                    self.false(f, g, (spoilt, W, m, weights))
                    # The product is right again here.
                    self.false(f, g, (spoilt, p_scaled(W, turned), m, weights))

    def test_w_spoilt(self):
        for f, g, (rows, W, m, weights) in PAPERS:
            for other in (p_times(W, line(19)), p_times(W, p_times(W, CUBE)), p_plus(W, UNIT), (), whole([0, 0, 1])):
                self.false(f, g, (rows, other, m, weights))
            if degree(W) > 0:
                self.false(f, g, (rows, UNIT, m, weights))

    def test_factors_of_double_poles(self):
        f = f_plus((UNIT, p_power(X, 2)), of_pieces([((2, 1), X), (HALF, line(1))]))
        g = (UNIT, line(17))
        rows, W, m, weights = solve(f, g)[1]
        self.assertEqual((rows, W), ((), line(1)))
        self.true(f, g, (rows, W, m, weights))
        self.false(f, g, (((2, X),), W, m, weights))
        self.false(f, g, (rows, p_times(W, X), m, weights))

    def test_m_spoilt(self):
        found = 0
        for f, g, (rows, W, m, weights) in PAPERS:
            if degree(W) == 0:
                continue
            found += 1
            for other in ((), UNIT, ((-2, 3),), p_plus(m, UNIT), whole([-7, 0, 0, 1]), line(-10 ** 9), p_slope(m)):
                self.false(f, g, (rows, W, other, weights))
            for n in (1, 2, 5, 10 ** 9):
                self.false(f, g, (rows, W, p_times(m, line(n)), weights))
                self.false(f, g, (rows, W, p_times(m, p_times(line(-n), line(n))), weights))
        self.assertGreater(found, 8)

    def test_other_polynomials_for_m(self):
        for f, g, (rows, W, m, weights) in PAPERS:
            if degree(W) > 0:
                for c in ((-1, 1), (7, 3), (1, 10 ** 12)):
                    self.true(f, g, (rows, W, p_scaled(m, c), weights))
                # Places that are nought, below it, broken or no numbers at all do no harm.
                for factor in (X, line(-1), line(-10 ** 9), line(1, 2), line(-7, 3), CIRCLE, SQUARE, m):
                    self.true(f, g, (rows, W, p_times(m, factor), weights))
            else:
                for other in ((), UNIT, line(1), CIRCLE, X):
                    self.true(f, g, (rows, W, other, weights))

    def test_weights_that_weigh_nothing_with_s(self):
        for f, g, (rows, W, m, weights) in PAPERS:
            s = reduced(f, g, bottom_of(g, rows))[2]
            for other in ((), (NOUGHT,), (NOUGHT,) * 40, (NOUGHT,) * len(s) + (ONE,), tuple([NOUGHT] * len(s)) + ((-7, 3), ONE)):
                self.false(f, g, (rows, W, m, other))
            self.false(f, ZERO, (rows, W, m, weights))

    def test_weights_that_fail_one_power(self):
        found = {}
        for f, g, (rows, W, m, weights) in PAPERS:
            p, q, s = reduced(f, g, bottom_of(g, rows))
            top = top_for(p, q, s)
            for i in range(0 if top is None else top + 1):
                other = failing_weights([column(p, q, j) for j in range(top + 1) if j != i], column(p, q, i), s)
                if other is not None:
                    found[i] = True
                    self.false(f, g, (rows, W, m, other))
        self.assertEqual([i for i in range(12) if i not in found], [])

    def test_one_weight_exchanged(self):
        chance = Random(284)
        found = 0
        for f, g, (rows, W, m, weights) in PAPERS:
            p, q, s = reduced(f, g, bottom_of(g, rows))
            top = top_for(p, q, s)
            for place in range(len(weights)):
                for other in (NOUGHT, plus(weights[place], ONE), drawn_number(chance, 12)):
                    spoilt = (rows, W, m, weights[:place] + (other,) + weights[place + 1:])
                    self.assertIs(shows_no_solution(f, g, spoilt), as_told(f, g, spoilt))
                for cut in (weights[:place] + weights[place + 1:], weights[:place]):
                    self.assertIs(shows_no_solution(f, g, (rows, W, m, cut)), as_told(f, g, (rows, W, m, cut)))
                if top is not None and any(number_of(column(p, q, i), place) != NOUGHT for i in range(top + 1)):
                    found += 1
                    other = plus(weights[place], ONE)
                    self.false(f, g, (rows, W, m, weights[:place] + (other,) + weights[place + 1:]))
        self.assertGreater(found, 20)

    def test_another_equation(self):
        for f, g, paper in PAPERS:
            for beside in ((UNIT, line(23)), (UNIT, whole([23, 0, 1]))):
                self.false(f_plus(f, beside), g, paper)
            for other in (f_times(g, f_number((2, 1))), f_plus(g, (X, UNIT)), (UNIT, UNIT), (UNIT, X)):
                self.assertIs(shows_no_solution(f, other, paper), as_told(f, other, paper))
            self.true(f, f_times(g, f_number((-2, 3))), paper)

    def test_never_where_there_is_a_solution(self):
        chance = Random(285)
        for f, g, told in SOLVED:
            rows, W, m = hold_of(f, g)
            many = [paper[3] for step, right, paper in PAPERS[::3]]
            many += [tuple(drawn_number(chance, 1) for place in range(chance.randrange(1, 9))) for time in range(12)]
            many += [(NOUGHT,) * place + (ONE,) for place in range(10)]
            for weights in many:
                self.false(f, g, (rows, W, m, weights))
            for step, right, paper in PAPERS:
                self.assertIs(shows_no_solution(f, g, paper), False)

    def test_weights_that_all_goes_out_with(self):
        chance = Random(288)
        many = [(f, g) for f, g, told in SOLVED] + [(f, g) for f, g, paper in PAPERS]
        for n in (1, 2, 7, 24, 33):
            for v in (line(1), CIRCLE, whole([3, 1, 1]), p_times(X, line(2)), ((-1, 3), ONE)):
                f = of_pieces([((n, 1), v), ((2 * n, 1), line(5))])
                many.append((f, left_side(f, drawn_fraction(chance, 1, n % 3, 1))))
                many.append((f, (UNIT, line(17))))
        found = 0
        for f, g in many:
            rows, W, m = hold_of(f, g)
            columns = columns_and_s(f, g, rows)
            frees = weights_by(columns, [NOUGHT] * len(columns))[1]
            for weights in frees[:2] + frees[-2:]:
                found += 1
                self.false(f, g, (rows, W, m, weights))
        self.assertGreater(found, 100)

    def test_the_pair_alone_allows_for_the_solution(self):
        # 1 / x - 1 is a solution of y' + (1 / x + 1) y = -1. Without the pair the weights would show that there is none.
        f = f_plus((UNIT, X), (UNIT, UNIT))
        g, weights = (whole([-1]), UNIT), (ONE, (-1, 1))
        self.assertIs(shows_solution(f, g, (whole([1, -1]), X)), True)
        self.assertIs(weights_as_told(f, g, (), weights), True)
        for m in ((), UNIT, X, line(1), line(-1), CIRCLE, p_times(line(1), CIRCLE), p_times(X, line(1)), line(1, 2)):
            self.false(f, g, ((), X, m, weights))
            self.false(f, g, ((), UNIT, m, weights))
            self.false(f, g, (((1, UNIT),), X, m, weights))
            self.false(f, g, (((2, X),), UNIT, m, weights))
            self.false(f, g, (((1, X),), UNIT, m, weights))

    def test_any_polynomials(self):
        chance = Random(286)
        many = polys()[:9] + [CIRCLE, SQUARE, X, line(1), p_times(X, line(1)), UNIT, UNIT]
        found = []
        for time in range(600):
            f, g = chance.choice(SIDES)[0], chance.choice([(UNIT, UNIT), (UNIT, line(17)), (UNIT, X), ZERO])
            rows = tuple((chance.randrange(-1, 4), chance.choice(many)) for place in range(chance.randrange(3)))
            W, m = chance.choice(many), chance.choice(many)
            if time % 3:
                rows, W, m = [chance.choice([part, part, part, other]) for part, other in zip(hold_of(f, g), (rows, W, m))]
            weights = tuple(chance.choice([NOUGHT, NOUGHT, ONE, (-1, 2)]) for place in range(chance.randrange(5)))
            found.append(shows_no_solution(f, g, (rows, W, m, weights)))
            self.assertIs(found[-1], as_told(f, g, (rows, W, m, weights)))
        self.assertEqual(set(found), {True, False})

    def test_great_pairs(self):
        # y' + n y / (x - 1) = 1 / x: for y = z / T it is x z' - z = x (x - 1) ^ n, and no z brings x alone.
        for n in (24, 25, 31, 40, 41, 60):
            f, g = of_pieces([((n, 1), line(1))]), (UNIT, X)
            rows = ((n, line(1)),)
            self.assertEqual(hold_of(f, g), (rows, UNIT, ()))
            self.true(f, g, (rows, UNIT, (), (NOUGHT, ONE)))
            self.true(f, g, (rows, UNIT, (), (NOUGHT, (-7, 3))))
            self.false(f, g, (rows, UNIT, (), (ONE, ONE)))
            self.false(f, g, (rows, UNIT, (), (NOUGHT, ONE, ONE)))
            self.false(f, g, (rows, UNIT, (), (NOUGHT, NOUGHT, ONE)))
        for n in (1000, 10 ** 9, GREAT, 10 ** 12 - 1):
            for v in (line(1), ((-2, 3), ONE), CIRCLE, whole([3, 1, 1])):
                f, g = of_pieces([((n, 1), v)]), (UNIT, X)
                rows = hold_of(f, g)[0]
                self.assertEqual(rows, ((n, v),))
                self.assertIs(shows_no_solution(f, g, (rows, UNIT, (), (NOUGHT, ONE))), True)
                self.assertIs(shows_no_solution(f, g, (rows, UNIT, (), (NOUGHT, ONE) + (NOUGHT,) * 9)), True)
                self.assertIs(shows_no_solution(f, g, (rows, UNIT, (), (ONE, ONE))), False)
                self.assertIs(shows_no_solution(f, g, (rows, UNIT, (), (NOUGHT, ONE, ONE))), False)
                self.assertIs(shows_no_solution(f, g, (rows, UNIT, (), ())), False)
                # Here there are solutions.
                for right in (ZERO, left_side(f, (X, UNIT)), left_side(f, (UNIT, line(5)))):
                    for weights in ((ONE,), (NOUGHT, ONE), (ONE, ONE, (-1, 2))):
                        self.assertIs(shows_no_solution(f, right, (rows, UNIT, (), weights)), False)

    def test_great_pairs_at_nought(self):
        # x ^ n divides s, so few weights weigh nothing with it.
        for n in (3, 30, 1000, GREAT):
            f, g = of_pieces([((n, 1), X)]), (UNIT, line(1))
            for many in range(6):
                weights = (NOUGHT,) * many + (ONE,)
                told = shows_no_solution(f, g, (((n, X),), UNIT, (), weights))
                if n <= 30:
                    self.assertIs(told, as_told(f, g, (((n, X),), UNIT, (), weights)))
                else:
                    self.assertIs(told, False)
        f, g = of_pieces([((3, 1), p_times(X, line(2)))]), (UNIT, line(1))
        rows, W, m, weights = solve(f, g)[1]
        self.true(f, g, (rows, W, m, weights))

    def test_many_of_s(self):
        """The first numbers of s are weighed rightly, however great the pairs are that stand in it."""
        chance = Random(287)
        words = []
        for time in range(40):
            pairs = [((chance.choice((1, 2, 7, 24, 33)), 1), v) for v in chance.sample((X, line(1), CIRCLE, ((-1, 3), ONE)), 2)]
            f, g = of_pieces(pairs, drawn_poly(chance, time % 2 - 1, 1)), (UNIT, line(17))
            rows, W, m = hold_of(f, g)
            weights = self.weights_for(f, g, rows)
            self.true(f, g, (rows, W, m, weights))
            for place in chance.sample(range(len(weights)), 3):
                spoilt = weights[:place] + (plus(weights[place], ONE),) + weights[place + 1:]
                words.append(shows_no_solution(f, g, (rows, W, m, spoilt)))
                self.assertIs(words[-1], as_told(f, g, (rows, W, m, spoilt)))
        self.assertIn(False, words)

    def test_great_degrees(self):
        # top_for is n here.
        for n in (31, 1000, GREAT):
            f, g = of_pieces([((-n, 1), X)]), (UNIT, line(1))
            rows, W, m = hold_of(f, g)
            self.assertEqual((rows, W, m), ((), X, line(-n)))
            p, q, s = reduced(f, g, line(1))
            self.assertEqual(top_for(p, q, s), n + 1)
            self.assertIs(shows_no_solution(f, g, (rows, W, m, (ONE,))), False)
            self.assertIs(shows_no_solution(f, g, (rows, W, m, (NOUGHT, ONE))), False)
        # x ^ i comes to (i - n) x ^ (i + 1) - (i - 1) x ^ i: so n and 1 weigh nothing with it.
        for n in (5, 31, 60, 1000, GREAT):
            f, g = of_pieces([((1 - n, 1), line(1)), ((-1, 1), X)]), (UNIT, UNIT)
            rows, W, m = hold_of(f, g)
            self.assertEqual((rows, W, m), ((), p_times(X, line(1)), p_times(line(-1), line(1 - n))))
            self.assertEqual(top_for(*reduced(f, g, UNIT)), n)
            self.assertIs(shows_no_solution(f, g, (rows, W, m, ((n, 1), ONE))), True)
            self.assertIs(shows_no_solution(f, g, (rows, W, m, ((n, 1), ONE, ONE))), False)
            self.assertIs(shows_no_solution(f, g, (rows, W, m, ((n - 1, 1), ONE))), False)
            if n < 100:
                self.true(f, g, (rows, W, m, ((n, 1), ONE)))

    def test_failing_at_the_last_that_is_weighed(self):
        # With f = x the column of i is i x ^ (i - 1) + x ^ (i + 1). These go out with the weights, but for the i that is
        # as many as there are weights.
        for weights in (whole([1]), whole([1, 0, -1]), whole([1, 0, -1, 0, 3]), whole([1, 0, -1, 0, 3, 0, -15])):
            many = len(weights)
            for top in range(many + 9):
                f, g = (X, UNIT), f_poly(p_plus(p_power(X, top + 1), whole([1000])))
                p, q, s = reduced(f, g, UNIT)
                self.assertEqual(top_for(p, q, s), top)
                failing = [i for i in range(many + 9) if weight_of(weights, column(p, q, i)) != 0]
                self.assertEqual(failing, [many])
                paper = ((), UNIT, (), weights)
                self.assertIs(shows_no_solution(f, g, paper), top < many)
                self.assertIs(as_told(f, g, paper), top < many)


if __name__ == "__main__":
    unittest.main()
