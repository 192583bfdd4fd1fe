import unittest
from decimal import Decimal
from fractions import Fraction
from random import Random

from backslope.areas import area, holes
from backslope.back import back
from backslope.backpaper import shows_none
from backslope.errors import Hole, NoRow, NoText, Nought, SlopeError, TooGreat
from backslope.forms import form_slope, settled
from backslope.fractions import f_plus, fraction
from backslope.lognumbers import n_plus, n_scaled, sign_of
from backslope.polys import monic, p_power, p_times
from samples import (
    CIRCLE, FIGURES, HALF, NOUGHT, ONE, SQUARE, UNIT, X, ZERO, decimal, drawn_fraction, drawn_number, drawn_poly,
    form_at, is_settled_number, line, log_worth, near, pair, poly_at, product, whole)

LINES = (Fraction(0), Fraction(1), Fraction(-2), Fraction(3, 2), Fraction(-5, 7), Fraction(10 ** 12 - 1, 10 ** 12 - 2))
# Numbers whose square and third roots are no numbers.
SIZES = (2, 3, 5, 7, 10, 123456789012)


def root_factor(n, s):
    """x ^ n - s."""
    return whole([-s] + [0] * (n - 1) + [1])


def factors():
    """Pairs of a polynomial and the real places where it is nought: a number, or (sign, n, s) for a root's."""
    many = [(line(*pair(a)), [a]) for a in LINES]
    many += [(root_factor(2, s), [(1, 2, s), (-1, 2, s)]) for s in SIZES]
    many += [(root_factor(3, s), [(1, 3, s)]) for s in SIZES] + [(root_factor(3, -s), [(-1, 3, s)]) for s in SIZES]
    return many + [(whole([m, 0, 1]), []) for m in (1, 2, 9, 10 ** 12 - 1)]


FACTORS = factors()


def is_below(c, place):
    """Whether c is less than the root."""
    sign, n, s = place
    if sign < 0:
        return c < 0 and (-c) ** n > s
    return c < 0 or c ** n < s


def lies(place, low, high):
    if isinstance(place, Fraction):
        return low <= place <= high
    return is_below(low, place) and not is_below(high, place)


def beside(place):
    """Numbers close to a place, on both sides, and the place itself where it is a number."""
    if isinstance(place, Fraction):
        return [place, place - Fraction(1, 10 ** 12), place + Fraction(1, 10 ** 12)]
    sign, n, s = place
    step = int(FIGURES.power(s * Decimal(10) ** (6 * n), decimal((1, n))))
    return [sign * Fraction(step, 10 ** 6), sign * Fraction(step + 1, 10 ** 6)]


def stretches(places):
    """Pairs of ends, the first not above the second, at the places, beside them and between them."""
    ends = sorted(set([c for place in places for c in beside(place)] + [Fraction(n) for n in (-3, -1, 0, 1, 2, 10 ** 6)]))
    return [(low, high) for place, low in enumerate(ends) for high in ends[place:]]


class Holes(unittest.TestCase):
    def counted(self, f, low, high, asked):
        answer = holes(f, pair(low), pair(high))
        self.assertIs(type(answer), int)
        self.assertEqual(answer, asked, (f, low, high))

    def across(self, chosen, powers, top):
        bottom = product([p_power(P, n) for (P, places), n in zip(chosen, powers)])
        f = fraction(top, bottom)
        self.assertEqual(f[1], monic(bottom))
        places = [place for P, found in chosen for place in found]
        for low, high in stretches(places):
            self.counted(f, low, high, sum(lies(place, low, high) for place in places))

    def test_ordinary_ones(self):
        for f, low, high, asked in (
                (ZERO, 0, 0, 0), (ZERO, -5, 5, 0), ((whole([0, 0, 3]), UNIT), -5, 5, 0), ((UNIT, X), 0, 0, 1),
                ((UNIT, X), -1, 0, 1), ((UNIT, X), 0, 1, 1), ((UNIT, X), -1, 1, 1), ((UNIT, X), 1, 2, 0),
                ((UNIT, X), -2, -1, 0), ((UNIT, X), 1, 1, 0), ((UNIT, p_power(X, 5)), -1, 1, 1),
                ((UNIT, SQUARE), -2, 2, 2), ((UNIT, SQUARE), -1, 1, 0),
                ((UNIT, SQUARE), 1, 2, 1), ((UNIT, SQUARE), -2, 1, 1), ((UNIT, CIRCLE), -9, 9, 0),
                ((UNIT, product([X, line(1), line(2)])), 0, 2, 3), ((UNIT, product([X, line(1), line(2)])), 0, 1, 2),
                ((UNIT, whole([-4, 0, 1])), -2, 2, 2), ((UNIT, whole([-8, 0, 0, 1])), -2, 2, 1)):
            self.counted(f, Fraction(low), Fraction(high), asked)

    def test_one_factor(self):
        for chosen in FACTORS:
            for n in (1, 2):
                self.across([chosen], [n], UNIT)
                self.across([chosen], [n], ((2, 3), NOUGHT, (-1, 7)))

    def test_many_factors(self):
        chance = Random(331)
        for time in range(24):
            chosen = chance.sample(FACTORS, 2 + time % 3)
            self.across(chosen, [chance.choice((1, 2)) for factor in chosen], UNIT)

    def test_the_top_does_not_count(self):
        for top in (X, SQUARE, line(1)):
            f = fraction(top, product([line(5), CIRCLE]))
            self.counted(f, Fraction(-3), Fraction(3), 0)
            self.counted(f, Fraction(-3), Fraction(5), 1)
        # What is common to both is gone.
        self.counted(fraction(product([X, line(1)]), product([X, line(2)])), Fraction(0), Fraction(1), 0)

    def test_degree_eight_with_twelve_figures(self):
        chance = Random(332)
        for time in range(6):
            places = [Fraction(*drawn_number(chance, 6 if time % 2 else 1)) for step in range(8)]
            bottom = product([line(*pair(place)) for place in places])
            f = fraction(UNIT, bottom)
            for low, high in stretches(places)[::7]:
                self.counted(f, low, high, len({place for place in places if low <= place <= high}))
        bottom = drawn_poly(chance, 8, 12)
        f = fraction(UNIT, p_times(bottom, line(1, 3)))
        whole_count = holes(f, (-(10 ** 13), 1), (10 ** 13, 1))
        self.assertEqual(whole_count, holes(f, (-(10 ** 13), 1), (1, 3)) + holes(f, (1, 3), (10 ** 13, 1)) - 1)


def drawn_forms():
    chance = Random(333)
    v = [X, line(1), line(-3, 2), line(7), CIRCLE, SQUARE, whole([1, 1, 0, 1]), whole([5, 2, 1])]
    numbers = [ONE, (-1, 1), HALF, (-2, 3), (7, 1), (-5, 7)]
    many = [(ZERO, ()), ((whole([1, 2, 3]), UNIT), ()), (ZERO, ((ONE, X),)), ((UNIT, CIRCLE), ((HALF, CIRCLE),))]
    for time in range(20):
        R = fraction(drawn_poly(chance, time % 4 - 1, 1), product(chance.sample(v, time % 3)))
        many.append(settled(R, [(chance.choice(numbers), P) for P in chance.sample(v, time % 5)])[0])
    many.append(settled(drawn_fraction(chance, 3, 2, 12), [(drawn_number(chance, 3), drawn_poly(chance, 2, 12))])[0])
    many.append((fraction(drawn_poly(chance, 8, 12), p_power(CIRCLE, 3)), ((drawn_number(chance, 12), CIRCLE),)))
    return many


FORMS = drawn_forms()
ENDS = [Fraction(n) for n in range(-4, 9, 2)] + [Fraction(1, 3), Fraction(-22, 7), Fraction(10 ** 12 - 1, 10 ** 12 - 2)]
# No form has them as its slope, as some residues are no numbers.
WILD = ((UNIT, CIRCLE), (UNIT, SQUARE), (whole([5, 2]), whole([1, 1, 0, 1])), fraction(UNIT, product([X, X, SQUARE])),
        f_plus((UNIT, line(1)), (whole([1, 1]), CIRCLE)), (UNIT, p_power(SQUARE, 2)))


class Areas(unittest.TestCase):
    def hole(self, f, low, high, many):
        for start, end in ((low, high), (high, low)):
            with self.assertRaises(Hole) as caught:
                area(f, start, end)
            self.assertEqual(caught.exception.many, many)
            self.assertIs(type(caught.exception.many), int)
            self.assertIsInstance(caught.exception, SlopeError)
            self.assertNotIsInstance(caught.exception, (NoText, Nought, TooGreat, NoRow))

    def told(self, f, low, high):
        answer = area(f, low, high)
        self.assertIs(type(answer), tuple)
        self.assertEqual((len(answer), answer[0]), (2, "told"))
        self.assertTrue(is_settled_number(answer[1]), answer)
        return answer[1]

    def worth(self, form, low, high):
        """Where there is no hole, and how it lies to the form's worths at both ends."""
        n = self.told(form_slope(form), low, high)
        asked = FIGURES.subtract(form_at(form, Fraction(*high)), form_at(form, Fraction(*low)))
        self.assertTrue(near(log_worth(*n), asked), (form, low, high))
        return n

    def test_ordinary_ones(self):
        for f, low, high, asked in (
                (ZERO, (-5, 1), (7, 1), (NOUGHT, ())), ((UNIT, UNIT), (-5, 1), (7, 1), ((12, 1), ())),
                ((X, UNIT), NOUGHT, ONE, (HALF, ())), ((X, UNIT), (-1, 1), ONE, (NOUGHT, ())),
                ((whole([0, 0, -3]), UNIT), (1, 2), (2, 1), ((-63, 8), ())),
                ((UNIT, p_power(X, 2)), ONE, (3, 1), ((2, 3), ())),
                ((UNIT, X), ONE, (2, 1), (NOUGHT, ((ONE, (2, 1)),))),
                ((UNIT, X), (2, 1), ONE, (NOUGHT, (((-1, 1), (2, 1)),))),
                ((UNIT, X), (-1, 1), (-2, 1), (NOUGHT, ((ONE, (2, 1)),))),
                ((whole([0, 2]), CIRCLE), (-7, 1), (7, 1), (NOUGHT, ())),
                ((whole([0, 1]), CIRCLE), NOUGHT, ONE, (NOUGHT, ((HALF, (2, 1)),)))):
            self.assertEqual(self.told(f, low, high), asked)

    def test_forms(self):
        found = {"told": 0, "hole": 0}
        for form in FORMS:
            f = form_slope(form)
            for low in ENDS:
                for high in ENDS:
                    many = holes(f, pair(min(low, high)), pair(max(low, high)))
                    if many:
                        self.hole(f, pair(low), pair(high), many)
                        found["hole"] += 1
                    else:
                        self.worth(form, pair(low), pair(high))
                        found["told"] += 1
        self.assertGreater(min(found.values()), 300)

    def test_asked_again(self):
        for form in FORMS:
            f = form_slope(form)
            if not holes(f, (2, 1), (5, 2)):
                self.assertEqual(area(f, (2, 1), (5, 2)), area(f, (2, 1), (5, 2)))

    def test_turned_round(self):
        for form in FORMS:
            f = form_slope(form)
            for low, high in zip(ENDS, ENDS[1:]):
                if not holes(f, pair(min(low, high)), pair(max(low, high))):
                    one, other = self.told(f, pair(low), pair(high)), self.told(f, pair(high), pair(low))
                    self.assertEqual(n_plus(one, other), (NOUGHT, ()))

    def test_ends_alike(self):
        for form in FORMS:
            f = form_slope(form)
            for end in ENDS:
                if not holes(f, pair(end), pair(end)):
                    self.assertEqual(self.told(f, pair(end), pair(end)), (NOUGHT, ()))

    def test_by_way_of_a_place_between(self):
        chance = Random(334)
        many = 0
        for form in FORMS:
            f = form_slope(form)
            for time in range(12):
                low, mid, high = sorted(chance.sample(ENDS, 3))
                if not holes(f, pair(low), pair(high)):
                    parts = n_plus(self.told(f, pair(low), pair(mid)), self.told(f, pair(mid), pair(high)))
                    less = n_scaled(self.told(f, pair(low), pair(high)), (-1, 1))
                    self.assertEqual(n_plus(parts, less), (NOUGHT, ()))
                    # Past the end and back again.
                    beyond = n_plus(self.told(f, pair(low), pair(high)), self.told(f, pair(high), pair(mid)))
                    less = n_scaled(self.told(f, pair(low), pair(mid)), (-1, 1))
                    self.assertEqual(n_plus(beyond, less), (NOUGHT, ()))
                    many += 1
        self.assertGreater(many, 60)

    def test_signs(self):
        for f in (fraction(UNIT, p_power(line(9), 2)), (whole([0, 0, 0, 0, 1]), UNIT), fraction(whole([0, 1]), CIRCLE)):
            turned = (tuple((-top, bottom) for top, bottom in f[0]), f[1])
            self.assertEqual(sign_of(self.told(f, ONE, (5, 1))), 1)
            self.assertEqual(sign_of(self.told(f, (5, 1), ONE)), -1)
            self.assertEqual(sign_of(self.told(turned, ONE, (5, 1))), -1)
            self.assertEqual(sign_of(self.told(turned, (5, 1), ONE)), 1)

    def test_between_the_steps(self):
        """The area of what falls lies between those of the boxes above it and below it."""
        for f in ((UNIT, X), fraction(UNIT, product([X, line(-1)])), fraction(whole([3, 1]), p_power(line(-1), 2)),
                  fraction(whole([1, 2]), product([X, line(-1), line(-2)]))):
            worth = Fraction(str(log_worth(*self.told(f, ONE, (4, 1)))))
            steps = [1 + Fraction(step, 100) for step in range(301)]
            heights = [poly_at(f[0], x) / poly_at(f[1], x) for x in steps]
            self.assertEqual(heights, sorted(heights, reverse=True))
            self.assertLess(sum(heights[1:]) / 100, worth)
            self.assertLess(worth, sum(heights[:-1]) / 100)

    def test_none(self):
        for f in WILD:
            for low, high in (((2, 1), (3, 1)), ((3, 1), (2, 1)), ((2, 1), (2, 1)), ((-7, 3), (-9, 2)), ((3, 2), (15, 1))):
                answer = area(f, low, high)
                self.assertEqual(answer[0], "none")
                self.assertEqual(answer, back(f))
                self.assertTrue(shows_none(f, answer[1]))
                self.assertEqual(area(f, low, high), answer)
        self.assertEqual(area((UNIT, CIRCLE), (-1, 1), ONE)[0], "none")

    def test_holes_go_ahead_of_none(self):
        self.hole((UNIT, SQUARE), NOUGHT, (2, 1), 1)
        self.hole((UNIT, SQUARE), (-2, 1), (2, 1), 2)
        self.hole((UNIT, p_power(SQUARE, 2)), (-2, 1), (2, 1), 2)
        self.hole(fraction(UNIT, product([X, X, SQUARE])), (-2, 1), (2, 1), 3)
        self.hole(fraction(UNIT, product([X, X, SQUARE])), NOUGHT, NOUGHT, 1)
        self.hole(f_plus((UNIT, line(1)), (whole([1, 1]), CIRCLE)), NOUGHT, ONE, 1)

    def test_holes_at_the_ends(self):
        f = fraction(UNIT, product([X, line(1), line(1), line(3)]))
        for low, high, many in (
                (NOUGHT, NOUGHT, 1), ((-1, 1), NOUGHT, 1), (NOUGHT, HALF, 1), (NOUGHT, ONE, 2), (HALF, ONE, 1),
                (ONE, ONE, 1), (ONE, (2, 1), 1), (NOUGHT, (3, 1), 3), ((-1, 1), (9, 1), 3), ((3, 1), (9, 1), 1)):
            self.hole(f, low, high, many)
        for low, high in ((HALF, (2, 3)), ((-2, 1), (-1, 10 ** 12)), ((1, 10 ** 12), HALF), ((4, 1), (5, 1))):
            self.told(f, low, high)
            self.told(f, high, low)

    def test_twelve_figures(self):
        chance = Random(335)
        for time in range(6):
            rows = [(drawn_number(chance, 12), whole([chance.randrange(1, 10 ** 12), 0, 1])) for row in range(3)]
            form = settled(fraction(drawn_poly(chance, 8, 12), p_power(CIRCLE, 3)), rows)[0]
            self.worth(form, drawn_number(chance, 12), drawn_number(chance, 12))


if __name__ == "__main__":
    unittest.main()
