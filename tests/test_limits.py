import unittest
from decimal import Decimal
from fractions import Fraction
from random import Random

from backslope.forms import form_scaled, settled
from backslope.fractions import f_moved, f_number, f_plus, f_times, fraction
from backslope.limits import limit, value_at
from backslope.lognumbers import n_scaled
from backslope.polys import degree, p_at, p_power, p_scaled, p_times
from samples import (
    CIRCLE, CUBE, FIGURES, HALF, NOUGHT, ONE, SQUARE, UNIT, X, ZERO, drawn_fraction, drawn_poly, form_at,
    is_settled_number, line, log_worth, near, poly_at, product, whole)

PLACES = (NOUGHT, ONE, (-2, 1), HALF, (-3, 7), (10 ** 12, 1), (1, 10 ** 12))
SIDES = ("above", "below")
UP = ("up",)
DOWN = ("down",)


def steps_near(place, side):
    """Two places on this side, the second one far nearer."""
    turn = 1 if side == "above" else -1
    if place is None:
        return Fraction(turn * 10 ** 40), Fraction(turn * 10 ** 80)
    return [Fraction(*place) + Fraction(turn, 10 ** figures) for figures in (40, 80)]


def drawn_forms():
    chance = Random(321)
    factors = [(lowered, ONE) for lowered in (NOUGHT, (-1, 1), (2, 1), (-1, 2), (3, 7))] + [CIRCLE, SQUARE, CUBE, line(5)]
    numbers = [ONE, (-1, 1), HALF, (-2, 3), (7, 1), (-5, 7), (3, 1), (-3, 1)]
    many = [(ZERO, ()), (f_number((-2, 3)), ()), ((X, UNIT), ()), (ZERO, ((ONE, X),)), ((UNIT, X), (((-1, 1), X),))]
    for time in range(40):
        R = drawn_fraction(chance, chance.randrange(-1, 3), chance.randrange(3), 1)
        if time % 3 == 0:
            R = fraction(drawn_poly(chance, 2, 1), product(chance.sample(factors, 2)))
        rows = [(chance.choice(numbers), chance.choice(factors)) for row in range(time % 7)]
        many.append(settled(R, rows)[0])
    rows = [(HALF, drawn_poly(chance, 8, 12)), (ONE, drawn_poly(chance, 3, 12))]
    many.append(settled(drawn_fraction(chance, 8, 8, 12), rows)[0])
    return many


FORMS = drawn_forms()


class Values(unittest.TestCase):
    def value(self, form, c):
        answer = value_at(form, c)
        R, logs = form
        if any(poly_at(P, Fraction(*c)) == 0 for P in [R[1]] + [v for e, v in logs]):
            self.assertIsNone(answer)
        else:
            self.assertTrue(is_settled_number(answer), answer)
            self.assertTrue(near(log_worth(*answer), form_at(form, Fraction(*c))))
        self.assertEqual(value_at(form, c), answer)
        return answer

    def test_ordinary_ones(self):
        self.assertEqual(self.value((ZERO, ()), ONE), (NOUGHT, ()))
        self.assertEqual(self.value(((X, UNIT), ()), (-2, 3)), ((-2, 3), ()))
        self.assertEqual(self.value((ZERO, ((ONE, X),)), (2, 1)), (NOUGHT, ((ONE, (2, 1)),)))
        self.assertEqual(self.value((ZERO, ((ONE, X),)), (-2, 1)), (NOUGHT, ((ONE, (2, 1)),)))
        self.assertEqual(self.value((ZERO, ((ONE, X),)), ONE), (NOUGHT, ()))
        self.assertEqual(self.value((ZERO, ((HALF, X),)), (2, 3)), (NOUGHT, ((HALF, (2, 1)), ((-1, 2), (3, 1)))))
        self.assertEqual(self.value(((UNIT, line(1)), ((ONE, CIRCLE),)), (2, 1)), (ONE, ((ONE, (5, 1)),)))
        # At 1 the one is 2 and the other 4.
        form = (ZERO, (((-1, 1), whole([3, 1])), ((2, 1), CIRCLE)))
        self.assertEqual(self.value(form, ONE), (NOUGHT, ()))

    def test_none(self):
        self.assertIsNone(self.value(((UNIT, X), ()), NOUGHT))
        self.assertIsNone(self.value((ZERO, ((ONE, X),)), NOUGHT))
        self.assertIsNone(self.value(((X, UNIT), ((ONE, CIRCLE), ((2, 1), ((-3, 2), ONE)))), (3, 2)))
        self.assertIsNone(self.value(((UNIT, SQUARE), ((ONE, line(-2)),)), (-2, 1)))
        self.assertIsNone(self.value(((UNIT, ((-1, 2), ONE)), ((ONE, X),)), HALF))
        # What is nought above does no harm.
        self.assertEqual(self.value(((X, UNIT), ((ONE, SQUARE),)), NOUGHT), (NOUGHT, ((ONE, (2, 1)),)))
        self.assertIsNotNone(self.value(((UNIT, SQUARE), ()), NOUGHT))

    def test_across(self):
        found = []
        for form in FORMS:
            for c in [(n, 1) for n in range(-6, 7)] + [HALF, (-1, 2), (-3, 7), (22, 7), (10 ** 12 - 1, 7)]:
                found.append(self.value(form, c) is None)
        self.assertGreater(found.count(True), 20)
        self.assertGreater(found.count(False), 400)

    def test_six_logarithms(self):
        logs = [((n, 1), line(n)) for n in (-3, -2, -1, 1, 2, 3)]
        form = settled((UNIT, X), logs)[0]
        self.assertEqual(len(form[1]), 6)
        for c in range(-8, 9):
            self.value(form, (c, 1))
            self.value(form, (2 * c + 1, 2))
            self.value(form, (3 * c + 1, 3))


class Limits(unittest.TestCase):
    def goes(self, form, place, side):
        answer = limit(form, place, side)
        self.assertIs(type(answer), tuple)
        far, close = [form_at(form, x) for x in steps_near(place, side)]
        less = FIGURES.subtract(close, far)
        if answer[0] == "number":
            self.assertEqual(len(answer), 2)
            self.assertTrue(is_settled_number(answer[1]), answer)
            self.assertLess(abs(FIGURES.subtract(log_worth(*answer[1]), close)), Decimal(10) ** -50)
            self.assertLess(abs(less), 1)
        else:
            self.assertIn(answer, (UP, DOWN))
            self.assertGreater(less if answer == UP else -less, 5)
        self.assertEqual(limit(form, place, side), answer)
        return answer

    def both(self, form, place, above, below):
        self.assertEqual((self.goes(form, place, "above"), self.goes(form, place, "below")), (above, below))

    def test_poles_of_r(self):
        for place in PLACES:
            way = ((-place[0], place[1]), ONE)
            for c in (ONE, (3, 7), (10 ** 12, 1)):
                for logs in ((), ((ONE, whole([7, 0, 1])),), (((-5, 1), whole([3, 0, 0, 1])),)):
                    for n in (1, 3, 5):
                        self.both((((c,), p_power(way, n)), logs), place, UP, DOWN)
                        self.both(((((-c[0], c[1]),), p_power(way, n)), logs), place, DOWN, UP)
                    for n in (2, 4, 6):
                        self.both((((c,), p_power(way, n)), logs), place, UP, UP)
                        self.both(((((-c[0], c[1]),), p_power(way, n)), logs), place, DOWN, DOWN)

    def test_the_sign_beside_a_pole(self):
        # (x - 2) / ((x - 1) (x - 3)), and with a square below.
        self.both(((line(2), p_times(line(1), line(3))), ()), ONE, UP, DOWN)
        self.both(((line(2), p_times(line(1), line(3))), ()), (3, 1), UP, DOWN)
        self.both(((line(4), p_times(line(1), line(3))), ()), ONE, UP, DOWN)
        self.both(((line(4), p_times(line(1), line(3))), ()), (3, 1), DOWN, UP)
        self.both(((UNIT, p_times(p_power(line(1), 2), line(3))), ()), ONE, DOWN, DOWN)
        self.both(((UNIT, p_times(p_power(line(1), 2), line(3))), ()), (3, 1), UP, DOWN)

    def test_a_pole_goes_ahead_of_logarithms(self):
        for c in (ONE, (-1, 1), (10 ** 11, 1), (-(10 ** 11), 1)):
            form = ((UNIT, X), ((c, X),))
            self.both(form, NOUGHT, UP, DOWN)
            form = ((whole([-1]), p_power(X, 2)), ((c, p_times(X, line(1))),))
            self.both(form, NOUGHT, DOWN, DOWN)
            self.both(form, ONE, DOWN if c[0] > 0 else UP, DOWN if c[0] > 0 else UP)

    def test_logarithms_that_have_the_place(self):
        for place in PLACES:
            way = ((-place[0], place[1]), ONE)
            for R in (ZERO, (whole([1, 5]), whole([3, 1, 1])), f_number((10 ** 12, 7))):
                for v in (way, p_times(way, CUBE), p_times(way, whole([9, 0, 1]))):
                    for c in (ONE, HALF, (7, 3), (10 ** 11, 1)):
                        self.both((R, ((c, v),)), place, DOWN, DOWN)
                        self.both((R, (((-c[0], c[1]), v),)), place, UP, UP)

    def test_other_logarithms_at_a_place(self):
        form = (ZERO, (((-1, 1), line(1)), (HALF, X), ((5, 1), line(2))))
        self.both(form, NOUGHT, DOWN, DOWN)
        self.both(form, ONE, UP, UP)
        self.both(form, (2, 1), DOWN, DOWN)
        self.assertEqual(self.goes(form, (3, 1), "above")[0], "number")

    def test_numbers_at_places(self):
        found = 0
        for form in FORMS:
            for place in [(n, 1) for n in range(-3, 4)] + [HALF, (-3, 7), (22, 7)]:
                told = value_at(form, place)
                if told is not None:
                    found += 1
                    for side in SIDES:
                        self.assertEqual(self.goes(form, place, side), ("number", told))
        self.assertGreater(found, 250)

    def test_ends_by_r(self):
        for c, up, down in ((ONE, UP, DOWN), ((-2, 3), DOWN, UP)):
            for logs in ((), ((ONE, X),), (((-(10 ** 11), 1), CIRCLE),)):
                for n in (1, 3, 5):
                    self.both((((NOUGHT,) * n + (c,), UNIT), logs), None, up, down)
                for n in (2, 4):
                    self.both((((NOUGHT,) * n + (c,), UNIT), logs), None, up, up)
                self.both((fraction(p_scaled(p_power(X, 5), c), CIRCLE), logs), None, up, down)
                self.both((fraction(p_scaled(p_power(X, 4), c), CIRCLE), logs), None, up, up)
                self.both((fraction(p_scaled(p_power(X, 3), c), CIRCLE), logs), None, up, down)

    def test_ends_by_logarithms(self):
        for R in (ZERO, f_number((-7, 3)), (UNIT, X), (whole([1, 0, 5]), CIRCLE)):
            self.both((R, ((ONE, X),)), None, UP, UP)
            self.both((R, (((-1, 1), X),)), None, DOWN, DOWN)
            self.both((R, ((HALF, CIRCLE), ((1, 10), line(5)))), None, UP, UP)
            self.both((R, (((-3, 1), CUBE), ((2, 1), line(5)))), None, DOWN, DOWN)
            # The degrees count: 1 times 3 is more than 2 times 1.
            self.both((R, (((-2, 1), line(4)), (ONE, CUBE))), None, UP, UP)
            self.both((R, (((-1, 1), CUBE), ((2, 1), line(4)))), None, DOWN, DOWN)

    def test_ends_where_logarithms_come_to_nought(self):
        logs = [(), (((-1, 1), line(1)), (ONE, line(2))), (((-2, 1), X), (ONE, CIRCLE)), (((-2, 3), CUBE), (ONE, SQUARE))]
        for pairs in logs:
            for R, asked in ((ZERO, NOUGHT), (f_number((-7, 3)), (-7, 3)), ((UNIT, X), NOUGHT),
                             ((whole([1, 0, 5]), CIRCLE), (5, 1)), ((whole([9, 2]), p_power(X, 3)), NOUGHT),
                             ((whole([9, 0, -1]), SQUARE), (-1, 1)), (fraction(whole([1, 2]), whole([5, 3])), (2, 3))):
                number = ("number", (asked, ()))
                self.both((R, pairs), None, number, number)

    def test_across(self):
        words = {}
        for form in FORMS:
            for place in [None] + [(n, 1) for n in range(-3, 6)] + [HALF, (-3, 7)]:
                for side in SIDES:
                    word = self.goes(form, place, side)[0]
                    words[place is None, word] = words.get((place is None, word), 0) + 1
        self.assertEqual(len(words), 6)
        self.assertGreater(min(words.values()), 10)

    def test_turned_and_moved(self):
        turned = {UP: DOWN, DOWN: UP}
        for form in FORMS[:30]:
            for place in [None, NOUGHT, ONE, (2, 1), HALF]:
                for side in SIDES:
                    told = limit(form, place, side)
                    other = limit(form_scaled(form, (-1, 1)), place, side)
                    if told[0] == "number":
                        self.assertEqual(other, ("number", n_scaled(told[1], (-1, 1))))
                    else:
                        self.assertEqual(other, turned[told])
                    more = limit((f_plus(form[0], f_number((5, 7))), form[1]), place, side)
                    self.assertEqual(more[0], told[0])

    def test_sides_alike_where_there_is_a_number(self):
        for form in FORMS:
            for place in PLACES:
                above, below = limit(form, place, "above"), limit(form, place, "below")
                if "number" in (above[0], below[0]):
                    self.assertEqual(above, below)
                    self.assertEqual(above[1], value_at(form, place))

    def test_degree_eight_with_twelve_figures(self):
        form = FORMS[-1]
        self.assertEqual(max(degree(P) for P in form[0]), 8)
        for place in (None,) + PLACES:
            for side in SIDES:
                self.goes(form, place, side)
        # Moved, and with poles of high order at places of twelve figures.
        place = (10 ** 12 - 1, 10 ** 12 - 2)
        way = ((-place[0], place[1]), ONE)
        self.assertEqual(p_at(way, place), NOUGHT)
        R = f_times(f_moved(form[0], ONE), (UNIT, p_power(way, 6)))
        self.assertIn(self.goes((R, form[1]), place, "above"), (UP, DOWN))
        self.assertEqual(self.goes((R, form[1]), place, "above"), self.goes((R, form[1]), place, "below"))


if __name__ == "__main__":
    unittest.main()
