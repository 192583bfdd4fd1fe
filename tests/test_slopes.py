import unittest
from fractions import Fraction
from random import Random

from backslope.back import back
from backslope.errors import TooGreat
from backslope.forms import form_slope, settled
from backslope.fractions import f_at, f_minus, f_number, f_over, f_plus, f_poly, f_slope, f_times, fraction
from backslope.parts import inverse, least
from backslope.polys import common, degree, monic, p_minus, p_plus, p_power, p_scaled, p_slope, p_split, p_times, poly
from backslope.slopepaper import shows_no_solution, shows_only, shows_solution
from backslope.slopes import bottom_of, hold_of, reduced, solve, top_for
from samples import (
    CIRCLE, CUBE, HALF, NOUGHT, ONE, SQUARE, UNIT, X, ZERO, drawn_fraction, drawn_poly, is_fraction, is_number, is_poly,
    left_side, line, lowest, polys, product, whole)

THIRD = ((-1, 3), ONE)
LINES = (X, line(1), line(-1), line(2), ((3, 2), ONE), THIRD)
QUADRATICS = (CIRCLE, SQUARE, whole([3, 1, 1]))
GREAT = 10 ** 9 + 7


def piece(c, v):
    """The fraction with the residue c at all places of v."""
    return fraction(p_scaled(p_slope(v), c), v)


def summed_up(fractions):
    total = ZERO
    for one in fractions:
        total = f_plus(total, one)
    return total


def of_pieces(pairs, P=()):
    return summed_up([f_poly(P)] + [piece(c, v) for c, v in pairs])


def f_power(y, n):
    """y to a whole power, also one below nought."""
    found = (p_power(y, abs(n)), UNIT)
    return found if n >= 0 else f_over((UNIT, UNIT), found)


class Case(unittest.TestCase):
    def refused(self, f, g):
        for time in range(2):
            with self.assertRaises(TooGreat) as caught:
                solve(f, g)
            self.assertIs(type(caught.exception), TooGreat)

    def is_too_great(self, f, g):
        """Whether the document refuses this equation."""
        rows = hold_of(f, g)[0]
        if any(rho > 24 for rho, v in rows):
            return True
        top = top_for(*reduced(f, g, bottom_of(g, rows)))
        return top is not None and top > 30

    def is_number_times(self, one, other):
        """Whether the one fraction is a number times the other, which isn't nought."""
        share = f_over(one, other)
        self.assertEqual(share[1], UNIT)
        self.assertLess(degree(share[0]), 1)

    def told(self, f, g):
        answer = solve(f, g)
        self.assertEqual((type(answer), len(answer), answer[0]), (tuple, 4, "told"))
        word, y, u, why = answer
        self.assertTrue(is_fraction(y), y)
        self.assertEqual(left_side(f, y), g)
        self.assertIs(shows_solution(f, g, y), True)
        if u is None:
            self.assertEqual(why, back(f))
            self.assertIs(shows_only(f, why), True)
        else:
            self.assertIsNone(why)
            self.assertTrue(is_fraction(u), u)
            self.assertNotEqual(u, ZERO)
            self.assertEqual(left_side(f, u), ZERO)
        self.assertEqual(solve(f, g), answer)
        return y, u

    def has(self, f, y):
        """What is told of the equation that y solves."""
        g = left_side(f, y)
        found, u = self.told(f, g)
        if u is None:
            self.assertEqual(found, y)
        else:
            self.is_number_times(f_minus(found, y), u)
        return u

    def none(self, f, g):
        answer = solve(f, g)
        self.assertEqual((type(answer), len(answer), answer[0]), (tuple, 2, "none"))
        self.assertIs(type(answer[1]), tuple)
        rows, W, m, weights = answer[1]
        self.assertEqual((rows, W, m), hold_of(f, g))
        self.assertIs(type(weights), tuple)
        self.assertTrue(all(is_number(weight) for weight in weights))
        self.assertIs(shows_no_solution(f, g, answer[1]), True)
        self.assertEqual(solve(f, g), answer)

    def either(self, f, g):
        if self.is_too_great(f, g):
            self.refused(f, g)
            return "too great"
        word = solve(f, g)[0]
        if word == "told":
            self.told(f, g)
        else:
            self.none(f, g)
        return word


class Holds(Case):
    def holds(self, f, rows, others):
        """The pairs, and the other simple factors."""
        W = product(others)
        answer = hold_of(f, ZERO)
        self.assertEqual((type(answer), type(answer[0])), (tuple, tuple))
        self.assertEqual(answer[:2], (tuple(rows), W))
        for rho, v in answer[0]:
            self.assertIs(type(rho), int)
            self.assertTrue(is_poly(v))
        if degree(W) > 0:
            F, E = f
            self.assertEqual(answer[2], least(p_times(F, inverse(p_slope(E), W)), W))
        else:
            self.assertEqual(answer[2], ())
        for g in (f, (UNIT, UNIT), (UNIT, X), (CUBE, p_power(SQUARE, 3))):
            self.assertEqual(hold_of(f, g), answer)

    def by_pairs(self, pairs, P=(), doubles=ZERO):
        """By pairs of a residue and a factor, no two alike; doubles has factors of its own."""
        found = {}
        for c, v in pairs:
            if c[1] == 1 and c[0] > 0:
                found[c[0]] = p_times(found.get(c[0], UNIT), v)
        others = [v for c, v in pairs if c[1] > 1 or c[0] < 0]
        self.holds(f_plus(of_pieces(pairs, P), doubles), sorted(found.items()), others)

    def test_none_at_all(self):
        for P in polys():
            self.holds(f_poly(P), [], [])
        self.holds((UNIT, p_power(X, 2)), [], [])
        self.holds((CUBE, p_power(p_times(X, CIRCLE), 3)), [], [])

    def test_ordinary_ones(self):
        self.holds((UNIT, X), [(1, X)], [])
        self.holds((whole([-1]), X), [], [X])
        self.holds(((HALF,), X), [], [X])
        self.holds((whole([0, 2]), CIRCLE), [(1, CIRCLE)], [])
        self.holds((UNIT, CIRCLE), [], [CIRCLE])
        self.assertEqual(hold_of((UNIT, CIRCLE), ZERO), ((), CIRCLE, ((1, 4), NOUGHT, ONE)))
        self.assertEqual(hold_of((whole([-2]), X), ZERO), ((), X, whole([2, 1])))
        self.assertEqual(hold_of(of_pieces([((3, 1), X), ((-1, 2), line(1))]), ZERO), (((3, X),), line(1), (HALF, ONE)))

    def test_whole_residues(self):
        for n in (1, 2, 3):
            for v in LINES + QUADRATICS:
                for P in ((), (ONE,), CUBE):
                    self.by_pairs([((n, 1), v)], P)
                    self.by_pairs([((-n, 1), v)], P)
                    self.by_pairs([((n, 2 if n % 2 else 3), v)], P)

    def test_many_factors(self):
        chance = Random(261)
        residues = [(n, 1) for n in (1, 2, 3, -1, -2, -3)] + [HALF, (-1, 2), (3, 2), (-5, 2)]
        for time in range(60):
            factors = chance.sample(LINES, chance.randrange(7)) + chance.sample(QUADRATICS, chance.randrange(3))
            self.by_pairs([(chance.choice(residues), v) for v in factors], drawn_poly(chance, time % 4 - 1, 1))

    def test_one_residue_at_six_places(self):
        self.by_pairs([(ONE, v) for v in LINES])
        self.by_pairs([((2, 1), v) for v in LINES[:5]] + [((-2, 1), LINES[5])])
        self.by_pairs([((place + 1, 1), v) for place, v in enumerate(LINES)], whole([0, 5]))
        self.by_pairs([((6 - place, 1), v) for place, v in enumerate(LINES)])

    def test_residues_that_are_no_numbers(self):
        wild = [(UNIT, whole([7, 0, 1])), (whole([1, 1]), whole([-3, 0, 1])), (UNIT, whole([-5, 0, 0, 1]))]
        for beside in wild:
            for pairs in ([], [(ONE, X)], [((2, 1), X), ((-2, 1), line(1)), (HALF, CIRCLE), ((3, 1), SQUARE)]):
                f = f_plus(of_pieces(pairs, whole([1, 2])), beside)
                rows = [(c[0], v) for c, v in pairs if c[1] == 1 and c[0] > 0]
                self.holds(f, rows, [beside[1]] + [v for c, v in pairs if c[1] > 1 or c[0] < 0])

    def test_double_and_triple_poles(self):
        for n in (2, 3):
            for v in (X, line(2), CIRCLE):
                pole = (UNIT, p_power(v, n))
                self.by_pairs([], doubles=pole)
                # Whole residues there count for nothing.
                self.by_pairs([], doubles=f_plus(pole, piece((2, 1), v)))
                self.by_pairs([((3, 1), line(1)), ((-1, 1), SQUARE)], whole([5]), f_plus(pole, piece((2, 1), v)))
                self.by_pairs([(ONE, line(1)), (ONE, SQUARE), (HALF, line(7))], (), f_plus(pole, piece((1, 1), v)))

    def test_great_residues(self):
        for n in (24, 25, 31, 1000, 10 ** 9, GREAT, 10 ** 12 - 1):
            for v in (X, line(5), CIRCLE):
                self.by_pairs([((n, 1), v)])
                self.by_pairs([((n, 1), v), ((-n, 1), line(1)), ((2 * n + 1, 2), SQUARE)])
                self.by_pairs([((n, 1), v), ((n + 1, 1), line(1)), ((2, 1), SQUARE)], X)

    def test_many_residues_rise(self):
        wholes = (10, 9, 2, 1000, 1, GREAT)
        self.by_pairs([((n, 1), v) for n, v in zip(wholes, LINES)])
        self.assertEqual([rho for rho, v in hold_of(of_pieces([((n, 1), v) for n, v in zip(wholes, LINES)]), ZERO)[0]],
                         sorted(wholes))

    def test_as_told(self):
        chance = Random(262)
        for time in range(30):
            E = product([p_power(v, chance.choice((1, 1, 1, 2, 3))) for v in chance.sample(LINES + QUADRATICS, 3)])
            f = fraction(drawn_poly(chance, chance.randrange(5), 1), E)
            F, E = f
            simple = product([v for v in LINES + QUADRATICS if p_split(E, v)[1] == () and p_split(E, p_times(v, v))[1]])
            rows, W, m = hold_of(f, ZERO)
            for rho in range(1, 40):
                v = common(simple, p_minus(F, p_scaled(p_slope(E), (rho, 1))))
                self.assertEqual([pair for pair in rows if pair[0] == rho], [(rho, v)] if degree(v) > 0 else [])
            self.assertEqual(product([v for rho, v in rows] + [W]), simple)

    def test_degree_eight_with_twelve_figures(self):
        chance = Random(263)
        f = drawn_fraction(chance, 8, 8, 12)
        self.holds(f, [], [f[1]])
        v = monic(drawn_poly(chance, 4, 12))
        self.holds(f_plus(piece((17, 1), v), (whole([1, 2]), p_times(X, line(1)))), [(3, line(1)), (17, v)], [X])


class Bottoms(Case):
    def test_ordinary_ones(self):
        self.assertEqual(bottom_of(ZERO, ()), UNIT)
        self.assertEqual(bottom_of((UNIT, CIRCLE), ()), CIRCLE)
        self.assertEqual(bottom_of((X, UNIT), ((3, X), (5, CIRCLE))), p_times(p_power(X, 3), p_power(CIRCLE, 5)))
        self.assertEqual(bottom_of((UNIT, X), ((1, X),)), whole([0, 0, 1]))

    def test_so_often_as_its_pair_tells(self):
        chance = Random(264)
        for time in range(20):
            g = drawn_fraction(chance, 2, chance.randrange(4), 1)
            rows = tuple((chance.randrange(1, 9), v) for v in chance.sample(LINES + QUADRATICS, time % 4))
            answer = bottom_of(g, rows)
            self.assertTrue(is_poly(answer))
            self.assertEqual(answer, p_times(g[1], product([v for rho, v in rows for step in range(rho)])))

    def test_great_pairs(self):
        for n in (24, 40, 41, 200):
            self.assertEqual(bottom_of(ZERO, ((n, X),)), (NOUGHT,) * n + (ONE,))
            self.assertEqual(bottom_of((UNIT, line(1)), ((n, CIRCLE),)), p_times(line(1), product([CIRCLE] * n)))

    def test_a_multiple_of_each_solutions_bottom(self):
        chance = Random(265)
        residues = [(n, 1) for n in (1, 2, 3, 4, -1, -2)] + [HALF]
        for time in range(60):
            pairs = [(chance.choice(residues), v) for v in chance.sample(LINES + QUADRATICS, chance.randrange(4))]
            f = of_pieces(pairs, drawn_poly(chance, time % 3 - 1, 1))
            if time % 4 == 0:
                f = f_plus(f, (UNIT, p_power(X, 2)))
            places = [v for c, v in pairs] + [line(9), X]
            y = summed_up([fraction(drawn_poly(chance, 1, 1), p_power(v, chance.randrange(1, 4))) for v in places])
            g = left_side(f, y)
            self.assertEqual(p_split(bottom_of(g, hold_of(f, g)[0]), y[1])[1], ())

    def test_poles_of_the_order_of_the_residue(self):
        for v in (X, THIRD, CIRCLE):
            for n in (1, 2, 3, 7):
                # Here all of y's pole goes out of g.
                y, f = (UNIT, p_power(v, n)), piece((n, 1), v)
                g = left_side(f, y)
                self.assertEqual(g, ZERO)
                self.assertEqual(bottom_of(g, hold_of(f, g)[0]), p_power(v, n))


class Reduced(Case):
    def holds(self, f, g, T):
        answer = reduced(f, g, T)
        self.assertIs(type(answer), tuple)
        self.assertTrue(all(is_poly(P) for P in answer), answer)
        p, q, s = answer
        self.assertEqual(p[-1], ONE)
        self.assertEqual(common(common(p, q), s), UNIT)
        chance = Random(266)
        for z in [(), UNIT, X, T, drawn_poly(chance, 3, 1), drawn_poly(chance, 5, 12)]:
            sides = f_minus(left_side(f, fraction(z, T)), g)
            less = p_minus(p_plus(p_times(p, p_slope(z)), p_times(q, z)), s)
            self.assertEqual(f_times(sides, f_poly(p_times(p, T))), f_poly(less))
        self.assertEqual(reduced(f, g, T), answer)
        return answer

    def test_ordinary_ones(self):
        self.assertEqual(self.holds(ZERO, ZERO, UNIT), (UNIT, (), ()))
        self.assertEqual(self.holds((X, UNIT), (UNIT, UNIT), UNIT), (UNIT, X, UNIT))
        self.assertEqual(self.holds((UNIT, X), (UNIT, UNIT), UNIT), (X, UNIT, X))
        self.assertEqual(self.holds((UNIT, X), (UNIT, UNIT), X), (UNIT, (), X))
        self.assertEqual(self.holds((whole([3]), X), (UNIT, X), X), (X, whole([2]), X))
        self.assertEqual(self.holds(ZERO, (UNIT, X), UNIT), (X, (), UNIT))
        self.assertEqual(self.holds(ZERO, (UNIT, CIRCLE), X), (p_times(X, CIRCLE), p_scaled(CIRCLE, (-1, 1)), p_times(X, X)))

    def test_across(self):
        chance = Random(267)
        fractions = [ZERO, (UNIT, X), (X, CIRCLE), f_poly(CUBE), piece((2, 1), SQUARE), drawn_fraction(chance, 2, 2, 12)]
        bottoms = [UNIT, X, p_power(X, 4), p_times(CIRCLE, X), p_power(SQUARE, 3), monic(drawn_poly(chance, 2, 12))]
        for f in fractions:
            for g in fractions:
                for T in bottoms:
                    self.holds(f, g, T)

    def test_bottoms_told(self):
        chance = Random(268)
        for time in range(20):
            pairs = [((chance.randrange(1, 6), 1), v) for v in chance.sample(LINES + QUADRATICS, time % 4)]
            f = of_pieces(pairs + [(HALF, line(11))], drawn_poly(chance, time % 3 - 1, 1))
            g = drawn_fraction(chance, 2, time % 3, 1)
            self.holds(f, g, bottom_of(g, hold_of(f, g)[0]))


def top_as_told(p, q, s):
    """The document's rule, with another kind of numbers."""
    P, Q, S = len(p) - 1, len(q) - 1, len(s) - 1
    if Q >= P:
        found = S - Q
    elif Q < P - 1:
        found = max(S - P + 1, 0)
    else:
        found = S - Q
        other = -Fraction(*q[-1]) / Fraction(*p[-1]) if q else Fraction(0)
        if other.denominator == 1 and other > found:
            found = int(other)
    return found if found >= 0 else None


class Tops(unittest.TestCase):
    def holds(self, p, q, s, expected):
        self.assertEqual(top_as_told(p, q, s), expected)
        answer = top_for(p, q, s)
        self.assertEqual(answer, expected)
        self.assertIn(type(answer), (int, type(None)))

    def test_q_above_p(self):
        self.holds(UNIT, X, CUBE, 2)
        self.holds(UNIT, X, X, 0)
        self.holds(UNIT, X, UNIT, None)
        self.holds(UNIT, X, (), None)
        self.holds(X, p_power(X, 7), p_power(X, 40), 33)

    def test_q_as_p(self):
        self.holds(UNIT, ((-5, 1),), CUBE, 3)
        self.holds(X, whole([0, 2]), UNIT, None)
        self.holds(CIRCLE, SQUARE, CUBE, 1)
        self.holds(CIRCLE, p_scaled(SQUARE, (-30, 1)), CUBE, 1)
        self.holds(UNIT, UNIT, (), None)

    def test_q_one_below_p(self):
        for n in (1, 2, 30, 31, 10 ** 12):
            self.holds(X, ((-n, 1),), UNIT, n)
            self.holds(CIRCLE, (NOUGHT, (-n, 1)), (), n)
        # Whole and greater, alike, lesser, below nought, and not whole.
        self.holds(X, whole([-4]), p_power(X, 3), 4)
        self.holds(X, whole([-4]), p_power(X, 4), 4)
        self.holds(X, whole([-4]), p_power(X, 5), 5)
        self.holds(X, whole([4]), p_power(X, 3), 3)
        self.holds(X, whole([4]), UNIT, 0)
        self.holds(X, ((-9, 2),), p_power(X, 3), 3)
        self.holds(X, ((-9, 2),), (), None)
        self.holds(X, whole([4]), (), None)
        self.holds(CUBE, (ONE, ONE, (-7, 1)), X, 7)
        self.holds(CUBE, (ONE, ONE, (-15, 2)), X, None)
        self.holds(CUBE, (ONE, ONE, (-15, 2)), p_power(X, 4), 2)
        # Where p isn't monic the last one counts.
        self.holds(whole([0, 2]), whole([-8]), UNIT, 4)
        self.holds(whole([0, 3]), whole([-8]), UNIT, 0)
        self.holds((NOUGHT, (1, 3)), ((-8, 1),), UNIT, 24)

    def test_q_far_below_p(self):
        self.holds(CIRCLE, UNIT, (), 0)
        self.holds(CIRCLE, whole([-9]), X, 0)
        self.holds(CIRCLE, whole([-9]), CIRCLE, 1)
        self.holds(CUBE, X, p_power(X, 9), 7)
        self.holds(CUBE, X, X, 0)

    def test_q_nought(self):
        self.holds(UNIT, (), (), 0)
        self.holds(UNIT, (), UNIT, 1)
        self.holds(UNIT, (), p_power(X, 30), 31)
        self.holds(X, (), (), 0)
        self.holds(X, (), UNIT, 0)
        self.holds(X, (), CUBE, 3)
        self.holds(CUBE, (), (), 0)
        self.holds(CUBE, (), p_power(X, 5), 3)

    def test_drawn_ones(self):
        chance = Random(269)
        many = [P for P in polys() if P != ()]
        found = []
        for time in range(500):
            p, q, s = monic(chance.choice(many)), chance.choice(many + [()]), chance.choice(many + [()])
            if time % 2 and degree(p) > 0:
                q = drawn_poly(chance, degree(p) - 1, 1)[:-1] + (lowest(-chance.randrange(1, 19), chance.randrange(1, 3)),)
            found.append(top_for(p, q, s))
            self.assertEqual(found[-1], top_as_told(p, q, s))
        self.assertIn(None, found)
        self.assertGreater(len(set(found)), 8)

    def test_never_below_a_solutions_degree(self):
        chance = Random(270)
        for time in range(300):
            p = monic(drawn_poly(chance, chance.randrange(4), 1))
            q = drawn_poly(chance, chance.randrange(-1, 5), 1)
            z = drawn_poly(chance, chance.randrange(10), 1)
            if time % 3 == 0 and degree(p) > 0:
                # Here the highest terms go out against one another.
                q = drawn_poly(chance, degree(p) - 1, 1)[:-1] + ((-degree(z), 1),)
                q = poly(list(q))
            s = p_plus(p_times(p, p_slope(z)), p_times(q, z))
            top = top_for(p, q, s)
            self.assertIsNotNone(top)
            self.assertGreaterEqual(top, degree(z))


class Solutions(Case):
    def test_ordinary_ones(self):
        y, u = self.told((UNIT, X), (UNIT, UNIT))
        self.is_number_times(u, (UNIT, X))
        y, u = self.told((UNIT, UNIT), (X, UNIT))
        self.assertEqual((y, u), ((line(1), UNIT), None))
        self.none((X, UNIT), (UNIT, UNIT))
        self.none(ZERO, (UNIT, X))
        self.none((UNIT, UNIT), (UNIT, X))
        y, u = self.told(((HALF,), X), (UNIT, UNIT))
        self.assertEqual((y, u), (((NOUGHT, (2, 3)), UNIT), None))

    def test_all_nought(self):
        y, u = self.told(ZERO, ZERO)
        self.is_number_times(u, (UNIT, UNIT))
        self.assertLess(degree(y[0]), 1)
        self.assertEqual(self.told((X, UNIT), ZERO), (ZERO, None))
        self.assertEqual(self.told((UNIT, CIRCLE), ZERO), (ZERO, None))
        self.assertEqual(self.told((UNIT, p_power(X, 2)), ZERO), (ZERO, None))
        self.assertEqual(self.told(((HALF,), X), ZERO), (ZERO, None))

    def test_the_way_back_of_fractions(self):
        chance = Random(271)
        for time in range(20):
            y = drawn_fraction(chance, chance.randrange(4), chance.randrange(4), 1)
            self.is_number_times(self.has(ZERO, y), (UNIT, UNIT))
            self.none(ZERO, f_plus(f_slope(y), (UNIT, line(17))))

    def test_whole_residues_and_nought(self):
        chance = Random(272)
        for time in range(60):
            factors = chance.sample(LINES + QUADRATICS, chance.randrange(1, 5))
            pairs = [((chance.choice((1, 2, 3, 5, -1, -2, -3)), 1), v) for v in factors]
            u = (UNIT, UNIT)
            for c, v in pairs:
                u = f_times(u, f_power(v, -c[0]))
            f = of_pieces(pairs)
            found = self.told(f, ZERO)
            self.is_number_times(found[1], u)
            if found[0] != ZERO:
                self.is_number_times(found[0], u)

    def test_known_solutions(self):
        chance = Random(273)
        residues = [(n, 1) for n in (1, 2, 3, -1, -2, -3)] + [HALF, (-5, 2)]
        found = []
        for time in range(90):
            pairs = [(chance.choice(residues), v) for v in chance.sample(LINES + QUADRATICS, chance.randrange(4))]
            f = of_pieces(pairs, drawn_poly(chance, chance.choice((-1, -1, 0, 1, 2)), 1))
            if time % 5 == 0:
                f = f_plus(f, (UNIT, p_power(chance.choice(LINES), 2)))
            if time % 7 == 0:
                f = f_plus(f, (UNIT, whole([7, 0, 1])))
            places = [v for c, v in pairs] + [line(9), X]
            bottom = product([p_power(v, chance.randrange(3)) for v in chance.sample(places, min(2, len(places)))])
            y = fraction(drawn_poly(chance, chance.randrange(4), 1), bottom)
            g = left_side(f, y)
            if self.is_too_great(f, g):
                self.refused(f, g)
            else:
                found.append(self.has(f, y))
        self.assertGreater(len(found), 60)
        self.assertGreater(found.count(None), 10)
        self.assertGreater(len(found) - found.count(None), 10)

    def test_why_there_is_no_other(self):
        y = fraction(whole([1, 2]), line(5))
        # A broken residue, an R that is no number, and no form at all.
        for f in (piece(HALF, X), of_pieces([(ONE, X), ((-1, 3), CIRCLE)]), (X, UNIT), (UNIT, UNIT), (UNIT, p_power(X, 2)),
                  f_plus(piece(ONE, X), (UNIT, UNIT)), (UNIT, CIRCLE), f_plus((UNIT, SQUARE), piece((2, 1), X))):
            self.assertIsNone(self.has(f, y))
            answer = solve(f, left_side(f, y))
            self.assertEqual(answer, ("told", y, None, back(f)))

    def test_another_one_just_where_the_way_back_tells_powers(self):
        chance = Random(274)
        for time in range(40):
            pairs = [((chance.choice((1, 2, -1, -2)), chance.choice((1, 1, 2))), v) for v in chance.sample(LINES, 2)]
            pairs = [(lowest(*c), v) for c, v in pairs]
            R = chance.choice([ZERO, f_number((7, 3)), (X, UNIT), (UNIT, X)])
            form = settled(R, pairs)[0]
            f = form_slope(form)
            g = left_side(f, fraction(whole([1, 3]), line(7)))
            if not self.is_too_great(f, g):
                u = self.told(f, g)[1]
                powers = degree(R[0]) < 1 and degree(R[1]) == 0 and all(c[1] == 1 for c, v in form[1])
                self.assertEqual(u is not None, powers)

    def test_a_simple_pole_where_neither_has_one(self):
        chance = Random(275)
        words = []
        for time in range(50):
            pairs = [((chance.choice((1, 2, -1, -2)), 1), v) for v in chance.sample(LINES, chance.randrange(3))]
            f = of_pieces(pairs, drawn_poly(chance, chance.choice((-1, 0, 1, 2)), 1))
            y = drawn_fraction(chance, chance.randrange(3), chance.randrange(2), 1)
            g = f_plus(left_side(f, y), (UNIT, chance.choice([line(17), whole([19, 0, 1])])))
            if self.is_too_great(f, g):
                self.refused(f, g)
            else:
                self.none(f, g)
                words.append("none")
        self.assertGreater(len(words), 30)

    def test_a_number_besides_where_f_is_of_degree_1(self):
        chance = Random(276)
        for time in range(20):
            f = f_poly(drawn_poly(chance, 1, 1))
            y = f_poly(drawn_poly(chance, time % 5 - 1, 1))
            g = left_side(f, y)
            self.has(f, y)
            for c in (ONE, (-2, 3), (1, 10 ** 12)):
                self.none(f, f_plus(g, f_number(c)))

    def test_twice_the_right_side(self):
        for f, y in (((X, UNIT), (UNIT, X)), (piece(ONE, X), (X, CIRCLE)), ((UNIT, CIRCLE), (UNIT, line(1)))):
            g = left_side(f, y)
            found, u = self.told(f, g)
            for c in (NOUGHT, (2, 1), (-1, 3), (10 ** 12 - 1, 7)):
                other, u = self.told(f, f_times(f_number(c), g))
                less = f_minus(other, f_times(f_number(c), found))
                self.assertTrue(less == ZERO or u is not None)

    def test_one_or_the_other(self):
        chance = Random(277)
        words = []
        for time in range(120):
            f = drawn_fraction(chance, chance.randrange(-1, 3), chance.randrange(3), 1)
            g = drawn_fraction(chance, chance.randrange(-1, 3), chance.randrange(3), 1)
            if time % 3 == 0:
                f = of_pieces([((chance.randrange(-3, 4), 1), v) for v in chance.sample(LINES, 2)])
                g = f_poly(drawn_poly(chance, time % 4 - 1, 1))
            words.append(self.either(f, g))
        self.assertGreater(words.count("told"), 20)
        self.assertGreater(words.count("none"), 20)

    def test_solutions_walked(self):
        # y' + 3 y / x = x^2: x^3 / 6 and c / x^3.
        y, u = self.told((whole([3]), X), (whole([0, 0, 1]), UNIT))
        for place in ((2, 1), (-1, 3)):
            c = Fraction(*place)
            less = Fraction(*f_at(y, place)) - c ** 3 / 6
            self.assertEqual(less * c ** 3, (Fraction(*f_at(y, ONE)) - Fraction(1, 6)))
        self.is_number_times(u, (UNIT, p_power(X, 3)))

    def test_twelve_figures(self):
        chance = Random(278)
        for degrees in ((1, 1), (2, 3), (8, 8)):
            f = drawn_fraction(chance, degrees[0], degrees[1], 12)
            y = drawn_fraction(chance, degrees[1], degrees[0], 12)
            self.assertIsNone(self.has(f, y))
            self.none(f, drawn_fraction(chance, 8, 8, 12))
        v = monic(drawn_poly(chance, 3, 12))
        self.is_number_times(self.has(piece((5, 1), v), (UNIT, p_power(v, 2))), (UNIT, p_power(v, 5)))
        self.is_number_times(self.has(piece((-5, 1), v), (UNIT, p_power(v, 2))), (p_power(v, 5), UNIT))


class Greatness(Case):
    def just(self, f, g, is_refused):
        self.assertIs(self.is_too_great(f, g), is_refused)
        if is_refused:
            self.refused(f, g)
        else:
            self.told(f, g)

    def test_great_residues_at_lines(self):
        for v in (X, THIRD, line(10 ** 6)):
            for n in range(21, 29):
                f = piece((n, 1), v)
                self.just(f, ZERO, n > 24)
                self.just(f, (UNIT, UNIT), n > 24)
                # y is v ^ 5 over a number here, and T v ^ n: so the degree is n + 5.
                self.just(f, f_poly(p_power(v, 4)), n > 24)
                self.just(f, f_poly(p_power(v, 7)), n > 22)

    def test_great_residues_at_quadratics(self):
        for v in QUADRATICS:
            for n in range(21, 29):
                f = piece((n, 1), v)
                self.just(f, ZERO, n > 24)
                self.just(f, (UNIT, UNIT), True)

    def test_great_residues_beside_others(self):
        for n in range(21, 29):
            f = of_pieces([((n, 1), line(4)), ((2, 1), X), ((-1, 1), CIRCLE)])
            self.just(f, ZERO, n > 24)
            self.either(f, (UNIT, line(9)))
            f = of_pieces([((n, 1), CIRCLE), (HALF, X)])
            self.either(f, ZERO)
            self.either(f_plus(f, (X, UNIT)), (UNIT, UNIT))
        self.just(of_pieces([((24, 1), v) for v in LINES]), ZERO, False)
        self.just(of_pieces([((24, 1), v) for v in LINES[:5]] + [((25, 1), LINES[5])]), ZERO, True)

    def test_residues_below_nought_at_lines(self):
        for v in (X, THIRD):
            for n in range(1, 41):
                f = piece((-n, 1), v)
                self.just(f, ZERO, n > 30)
                self.just(f, (UNIT, UNIT) if n > 1 else f_poly(v), n > 30)
                # T is v here: so the degree is one more.
                y = (UNIT, v)
                self.just(f, left_side(f, y), n > 28)

    def test_residues_below_nought_at_quadratics(self):
        for v in QUADRATICS:
            for n in range(1, 21):
                f = piece((-n, 1), v)
                self.just(f, ZERO, n > 15)
                self.just(f, left_side(f, (v, UNIT)), n > 15)
                # T is v here: so the degree is two more.
                self.just(f, left_side(f, (X, UNIT)), n > 14)

    def test_residues_far_out(self):
        for n in (1000, GREAT, 10 ** 12 - 1):
            for v in (X, CIRCLE):
                for g in (ZERO, (UNIT, UNIT), (UNIT, line(3))):
                    self.refused(piece((n, 1), v), g)
                    self.refused(piece((-n, 1), v), g)
            # A pole of another kind has no such bearing.
            self.either(f_plus((whole([n]), p_power(X, 2)), piece((3, 1), X)), (UNIT, X))
            self.either((((n, 1),), UNIT), (CUBE, UNIT))
            self.either(((lowest(n, 2 * n + 1),), X), (CUBE, UNIT))

    def test_great_degrees_on_the_right(self):
        for n in range(26, 34):
            self.just(ZERO, f_poly(p_power(X, n)), n > 29)
            self.just((UNIT, UNIT), f_poly(p_power(X, n)), n > 30)
            self.just((X, UNIT), f_poly(p_power(X, 2 * n - 27)), n > 29)

    def test_refused_where_none_would_be(self):
        # Without the bound there would be none here: it goes ahead.
        self.refused(piece((-31, 1), X), (UNIT, line(5)))
        self.refused(piece((25, 1), X), (UNIT, line(5)))


if __name__ == "__main__":
    unittest.main()
