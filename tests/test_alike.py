import unittest
from copy import deepcopy
from fractions import Fraction
from random import Random

from backslope.alike import alike
from backslope.forms import settled
from backslope.fractions import f_number, f_plus, fraction
from backslope.lognumbers import n_plus, n_scaled, settled_number
from backslope.numbers import minus, over, plus, times
from backslope.polys import p_minus, p_power, p_scaled, p_slope, p_times
from samples import (
    CIRCLE, CUBE, FIGURES, HALF, NOUGHT, ONE, SQUARE, UNIT, X, ZERO, drawn_fraction, drawn_number, drawn_poly, form_at,
    is_number, is_settled_number, line, log_worth, near, poly_at, product, whole)

# No two have a common factor.
FACTORS = (X, line(1), line(-1), line(1, 2), line(5), CIRCLE, SQUARE, CUBE)
NUMBERS = (ONE, (-1, 1), HALF, (-1, 2), (2, 3), (-3, 1), (10 ** 12 - 1, 8))
HEADS = ((2, 1), (-3, 1), (-1, 1), (7, 5), (-1, 6), (10 ** 12 - 1, 10 ** 12 - 2))


def counting(one):
    """The rows whose c isn't nought."""
    return [(c, P) for c, P in one[1] if c != NOUGHT]


def has_worth(one, x):
    return all(poly_at(P, x) for P in [one[0][1]] + [P for c, P in counting(one)])


def slope_at(one, x):
    """The slope at a place, with another kind of numbers and by the rules for quotients and logarithms."""
    (top, bottom), rows = one[0], counting(one)
    total = poly_at(p_slope(top), x) * poly_at(bottom, x) - poly_at(top, x) * poly_at(p_slope(bottom), x)
    total /= poly_at(bottom, x) ** 2
    return total + sum(Fraction(*c) * poly_at(p_slope(P), x) / poly_at(P, x) for c, P in rows)


def told_otherwise(chance, one):
    """The same but for a number, with other rows."""
    R, rows = one
    found = []
    left = list(rows)
    while left:
        c, P = left.pop(chance.randrange(len(left)))
        way = chance.randrange(5)
        if way == 0:
            n = chance.choice((2, 3))
            found.append((over(c, (n, 1)), p_power(P, n)))
        elif way == 1:
            share = chance.choice(NUMBERS)
            found += [(share, P), (minus(c, share), P)]
        elif way == 2:
            found.append((c, p_scaled(P, chance.choice(HEADS))))
        elif way == 3 and left:
            # c log P + e log Q is c log(P Q) + (e - c) log Q.
            e, Q = left.pop()
            found += [(c, p_times(P, Q)), (minus(e, c), Q)]
        else:
            found.append((times(c, (-1, 1)), P))
            found.append((times(c, (2, 1)), P))
    found.append((chance.choice(NUMBERS), (chance.choice(HEADS),)))
    found.append((NOUGHT, p_scaled(chance.choice(FACTORS), chance.choice(HEADS))))
    chance.shuffle(found)
    return (f_plus(R, f_number(chance.choice(NUMBERS + (NOUGHT,)))), found)


def drawn_ones():
    chance = Random(341)
    many = [(ZERO, []), (f_number((-2, 3)), []), ((X, UNIT), []), (ZERO, [(ONE, X)]), (ZERO, [(HALF, (HEADS[1],))])]
    for time in range(30):
        R = fraction(drawn_poly(chance, time % 4 - 1, 1), product(chance.sample(FACTORS, time % 3)))
        many.append((R, [(chance.choice(NUMBERS), P) for P in chance.sample(FACTORS, time % 7)]))
    for figures in (3, 12):
        rows = [(drawn_number(chance, figures), drawn_poly(chance, degree, figures)) for degree in (0, 1, 2, 4, 8)]
        many.append((drawn_fraction(chance, 8, 8, figures), rows))
    return many


ONES = drawn_ones()


def slope_nought_at(places):
    """A polynomial whose slope is nought at these places."""
    slope = product([line(place) for place in places])
    return (NOUGHT,) + tuple(over(number, (n, 1)) for n, number in enumerate(slope, start=1))


class Case(unittest.TestCase):
    def alike(self, one, other):
        answer = alike(one, other)
        self.assertIs(type(answer), tuple)
        self.assertEqual((len(answer), answer[0]), (2, "alike"), (one, other))
        self.assertTrue(is_settled_number(answer[1]), answer)
        for x in [Fraction(n) for n in (3, -4, 11)] + [Fraction(17, 3)]:
            if has_worth(one, x) and has_worth(other, x):
                worth = FIGURES.subtract(form_at((one[0], counting(one)), x), form_at((other[0], counting(other)), x))
                self.assertTrue(near(log_worth(*answer[1]), worth), (one, other))
        return answer[1]

    def unlike(self, one, other):
        answer = alike(one, other)
        self.assertIs(type(answer), tuple)
        self.assertEqual((len(answer), answer[0]), (2, "place"), (one, other))
        self.assertTrue(is_number(answer[1]), answer)
        x = Fraction(*answer[1])
        self.assertTrue(has_worth(one, x) and has_worth(other, x), (one, other, x))
        self.assertNotEqual(slope_at(one, x), slope_at(other, x))
        return answer[1]

    def both_unlike(self, one, other):
        self.unlike(one, other)
        self.unlike(other, one)


class Alike(Case):
    def test_ordinary_ones(self):
        log_x = (ZERO, [(ONE, X)])
        for one, other, asked in (
                ((ZERO, []), (ZERO, []), (NOUGHT, ())), ((f_number(HALF), []), (ZERO, []), (HALF, ())),
                ((ZERO, []), (f_number(HALF), []), ((-1, 2), ())), (log_x, log_x, (NOUGHT, ())),
                ((ZERO, [(HALF, whole([0, 0, 1]))]), log_x, (NOUGHT, ())),
                ((ZERO, [(ONE, whole([0, 2]))]), log_x, (NOUGHT, ((ONE, (2, 1)),))),
                (log_x, (ZERO, [(ONE, whole([0, -2]))]), (NOUGHT, (((-1, 1), (2, 1)),))),
                ((ZERO, [(ONE, p_times(X, line(1)))]), (ZERO, [(ONE, X), (ONE, line(1))]), (NOUGHT, ())),
                (((X, UNIT), [((2, 3), ((-1, 5),))]), ((whole([1, 1]), UNIT), []), ((-1, 1), (((-2, 3), (5, 1)),))),
                ((ZERO, [(NOUGHT, X), (NOUGHT, CUBE)]), (ZERO, []), (NOUGHT, ())),
                ((ZERO, [(ONE, X), ((-1, 1), X)]), (ZERO, [(ONE, (HALF,)), (ONE, ((2, 1),))]), (NOUGHT, ()))):
            self.assertEqual(self.alike(one, other), asked)

    def test_with_itself(self):
        for one in ONES:
            self.assertEqual(self.alike(one, one), (NOUGHT, ()))
            self.assertEqual(self.alike(one, (one[0], one[1][::-1])), (NOUGHT, ()))

    def test_told_in_other_ways(self):
        chance = Random(342)
        found = 0
        for one in ONES:
            for time in range(6):
                other = told_otherwise(chance, one)
                n = self.alike(one, other)
                found += len(n[1]) > 0
                self.assertEqual(n_plus(n, self.alike(other, one)), (NOUGHT, ()))
                third = told_otherwise(chance, other)
                whole_way = n_plus(self.alike(one, other), self.alike(other, third))
                self.assertEqual(n_plus(whole_way, n_scaled(self.alike(one, third), (-1, 1))), (NOUGHT, ()))
        self.assertGreater(found, 100)

    def test_what_is_settled(self):
        for R, rows in ONES:
            form, heads = settled(R, rows)
            n = self.alike((R, rows), (form[0], list(form[1])))
            self.assertEqual(n_plus(n, n_scaled(settled_number(NOUGHT, list(heads)), (-1, 1))), (NOUGHT, ()))

    def test_many_rows(self):
        one = (ZERO, [((n, 1), line(n % 5)) for n in range(1, 41)])
        sums = [(sum(n for n in range(1, 41) if n % 5 == place), 1) for place in range(5)]
        self.assertEqual(self.alike(one, (ZERO, [(c, line(place)) for place, c in enumerate(sums)])), (NOUGHT, ()))


class Unlike(Case):
    def more(self):
        """What may stand in the one and not in the other."""
        fractions = [(UNIT, X), (UNIT, line(3)), (UNIT, p_power(CIRCLE, 2)), (X, UNIT), (whole([0, 0, 0, 1]), UNIT),
                     (((1, 10 ** 12),), line(1)), ((NOUGHT, (1, 10 ** 12)), UNIT)]
        rows = [(ONE, X), ((-1, 1), line(11)), ((1, 10 ** 12), CUBE), (HALF, whole([7, 0, 0, 0, 1])), (ONE, whole([0, -2]))]
        return [(F, []) for F in fractions] + [(ZERO, [row]) for row in rows]

    def test_ordinary_ones(self):
        nought = (ZERO, [])
        for other in self.more():
            self.both_unlike(nought, other)
            self.both_unlike((f_number((5, 7)), [((-2, 3), ((7, 1),)), (NOUGHT, X)]), other)
        self.both_unlike((ZERO, [(ONE, X)]), (ZERO, [((2, 1), X)]))
        self.both_unlike((ZERO, [(ONE, X)]), (ZERO, [((-1, 1), X)]))
        self.both_unlike((ZERO, [(ONE, X)]), (ZERO, [(ONE, line(1))]))
        self.both_unlike((ZERO, [(ONE, X)]), ((X, UNIT), []))

    def test_something_more(self):
        chance = Random(343)
        for R, rows in ONES:
            other = told_otherwise(chance, (R, rows))
            for F, more in self.more():
                self.both_unlike((f_plus(R, F), rows + more), other)

    def test_a_greater_number(self):
        chance = Random(344)
        for R, rows in ONES:
            other = told_otherwise(chance, (R, rows))
            for place, (c, P) in enumerate(rows):
                if len(P) > 1:
                    for more in (ONE, (-1, 10 ** 12)):
                        self.both_unlike((R, rows[:place] + [(plus(c, more), P)] + rows[place + 1:]), other)
                    self.both_unlike((R, rows[:place] + rows[place + 1:]), other)

    def test_slopes_that_are_nought_at_many_small_places(self):
        for places in (range(8), range(-4, 4), range(-7, 1), range(20), range(-30, 31), [0, 1, -1, 2, -2, 3, -3, 4]):
            P = slope_nought_at(places)
            self.both_unlike(((P, UNIT), []), (ZERO, []))
            self.both_unlike(((P, UNIT), [(ONE, X)]), (ZERO, [(HALF, whole([0, 0, 3])), (NOUGHT, CIRCLE)]))
        # Broken places and whole ones that aren't small.
        self.both_unlike(((slope_nought_at([10 ** 11 + n for n in range(8)]), UNIT), []), (ZERO, []))

    def test_bottoms_that_are_nought_at_many_small_places(self):
        bottom = product([line(n) for n in range(-4, 4)])
        other = product([line(n) for n in (4, -5, 5, -6, 6, -7, 7, -8)])
        third = product([line(n) for n in range(8, 16)])
        slope = slope_nought_at(range(16, 23))
        one = ((UNIT, bottom), [(ONE, other), (HALF, third), (NOUGHT, line(23))])
        self.both_unlike(one, (ZERO, []))
        self.both_unlike(one, (one[0], [(HALF, p_times(other, other))]))
        self.both_unlike(one, (f_plus(one[0], (slope, UNIT)), one[1]))
        self.both_unlike((one[0], one[1] + [(ONE, X), ((-1, 1), X)]), (f_plus(one[0], (slope, UNIT)), one[1]))

    def test_what_goes_out_counts_too(self):
        # Both have the same bottom and the same rows, so nothing of them is left in the one less the other.
        same = fraction(UNIT, product([line(n) for n in range(5)]))
        rows = [(ONE, line(n)) for n in range(5, 9)]
        self.both_unlike((same, rows), (f_plus(same, (X, UNIT)), rows[::-1]))
        self.both_unlike((same, rows), (same, rows + [(ONE, CIRCLE)]))
        self.both_unlike((ZERO, [(ONE, X), ((-1, 1), X), (ONE, line(1))]), (ZERO, []))

    def test_slopes_meet_where_neither_is_nought(self):
        P = slope_nought_at(range(-3, 4))
        for one in ONES[:20]:
            self.both_unlike((f_plus(one[0], (P, UNIT)), one[1]), one)
            self.both_unlike((one[0], one[1] + [(ONE, whole([0, -4, 1]))]), one)
        self.both_unlike(((p_minus(P, X), UNIT), []), ((p_scaled(X, (-1, 1)), UNIT), []))


class Kept(Case):
    def test_lists_stay(self):
        chance = Random(345)
        for place, one in enumerate(ONES):
            for other in (told_otherwise(chance, one), ONES[place - 1], (f_plus(one[0], (X, UNIT)), list(one[1]))):
                kept = deepcopy((one, other))
                answer = alike(one, other)
                self.assertEqual((one, other), kept)
                self.assertEqual(alike(one, other), answer)

    def test_the_same_list_twice(self):
        rows = [(ONE, X), (HALF, CIRCLE)]
        self.assertEqual(alike((ZERO, rows), (ZERO, rows)), ("alike", (NOUGHT, ())))
        self.assertEqual(rows, [(ONE, X), (HALF, CIRCLE)])

    def test_one_or_the_other(self):
        found = []
        for one in ONES[::2]:
            for other in ONES[::2]:
                word = alike(one, other)[0]
                found.append(word)
                (self.alike if word == "alike" else self.unlike)(one, other)
                self.assertEqual(alike(other, one)[0], word)
        self.assertEqual(set(found), {"alike", "place"})

    def test_degree_eight_with_twelve_figures(self):
        chance = Random(346)
        rows = [(drawn_number(chance, 12), drawn_poly(chance, 8, 12)) for row in range(8)]
        R = drawn_fraction(chance, 8, 8, 12)
        self.alike((R, rows), (R, [(c, p_scaled(P, drawn_number(chance, 12))) for c, P in rows[::-1]]))
        self.both_unlike((R, rows), (R, rows[1:]))
        self.both_unlike((R, rows), (f_plus(R, (UNIT, line(10 ** 12 - 1))), rows))


if __name__ == "__main__":
    unittest.main()
