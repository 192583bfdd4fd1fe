import unittest
from copy import deepcopy
from decimal import Decimal
from fractions import Fraction
from random import Random

from backslope.forms import settled
from backslope.lognumbers import held, log_ends, n_plus, n_scaled, settled_number, sign_of
from samples import (
    FIGURES, HALF, NEAR, NOUGHT, ONE, decimal, drawn_number, is_number, is_settled_number, log_of, log_worth, lowest,
    near, numbers, whole)

ZERO = (NOUGHT, ())


def drawn_size(chance, figures):
    """A number above nought with so many figures above and below."""
    return lowest(chance.randrange(10 ** (figures - 1), 10 ** figures), chance.randrange(10 ** (figures - 1), 10 ** figures))


def smooth(chance, figures):
    """A whole number of small factors alone, of at most so many figures."""
    found = 1
    while found < 10 ** (figures - 2):
        found *= chance.choice((2, 2, 3, 3, 5, 7, 30, 97))
    return found


def row_lists():
    chance = Random(301)
    numbers_c = [NOUGHT, ONE, (-1, 1), HALF, (-1, 2), (2, 3), (-7, 1), (10 ** 11, 1), (-99999999999, 7)]
    sizes = [ONE, (2, 1), (1, 2), (4, 1), (8, 9), (12, 1), (1, 6), (36, 25), (49, 1), (6, 1), (10, 21), (1000, 1)]
    many = [[], [(ONE, ONE)], [(NOUGHT, (2, 1))], [((-2, 3), (1, 5))]]
    for time in range(60):
        many.append([(chance.choice(numbers_c), chance.choice(sizes)) for row in range(1 + time % 12)])
    for figures in (12, 40, 80):
        for time in range(4):
            many.append([(drawn_number(chance, 3), drawn_size(chance, figures)) for row in range(1 + 3 * time)])
            many.append([(chance.choice(numbers_c), lowest(smooth(chance, figures), smooth(chance, figures)))
                         for row in range(3 * time + 3)])
        shared = drawn_size(chance, figures // 2)
        other = drawn_size(chance, figures // 2 - 1)
        both = lowest(shared[0] * other[0], shared[1] * other[1])
        many.append([(ONE, both), ((-1, 1), shared), (HALF, other), ((2, 1), (shared[0], 1)), (ONE, (1, shared[1]))])
    for rows in list(many[4:14]):
        # The same pairs with the other sign, so that nothing is left.
        many.append(rows + [((-c[0], c[1]), r) for c, r in rows])
        many.append(rows + [(c, (r[1], r[0])) for c, r in rows])
    return many


ROWS = row_lists()
QS = (NOUGHT, ONE, (-2, 3), (10 ** 12 - 2, 7))


class Settled(unittest.TestCase):
    def holds(self, q, rows):
        answer = settled_number(q, rows)
        self.assertTrue(is_settled_number(answer), answer)
        self.assertTrue(near(log_worth(*answer), log_worth(q, rows)), rows)
        self.assertEqual(settled_number(q, rows), answer)
        return answer

    def test_ordinary_ones(self):
        self.assertEqual(self.holds(NOUGHT, []), ZERO)
        self.assertEqual(self.holds((-2, 3), []), ((-2, 3), ()))
        self.assertEqual(self.holds(NOUGHT, [(ONE, ONE)]), ZERO)
        self.assertEqual(self.holds(NOUGHT, [(ONE, (2, 1))]), (NOUGHT, ((ONE, (2, 1)),)))
        self.assertEqual(self.holds(HALF, [(ONE, (2, 3))]), (HALF, ((ONE, (2, 1)), ((-1, 1), (3, 1)))))
        self.assertEqual(self.holds(NOUGHT, [(NOUGHT, (2, 1)), (ONE, (5, 1))]), (NOUGHT, ((ONE, (5, 1)),)))
        self.assertEqual(self.holds(NOUGHT, [(ONE, (7, 1)), (HALF, (3, 1))]), (NOUGHT, ((HALF, (3, 1)), (ONE, (7, 1)))))

    def test_common_factors(self):
        for one in range(2, 40):
            for other in range(2, 40):
                self.holds(NOUGHT, [(ONE, (one, 1)), (ONE, (other, 1))])
                self.holds(HALF, [((-2, 3), (one, 1)), (HALF, lowest(other, one + 1))])
        # Here there is no other way.
        rows = [(ONE, (12, 1)), (HALF, (18, 1))]
        self.assertEqual(self.holds(NOUGHT, rows), (NOUGHT, (((5, 2), (2, 1)), ((2, 1), (3, 1)))))
        rows = [(ONE, (6, 1)), ((-1, 1), (10, 1)), ((-1, 1), (15, 1))]
        self.assertEqual(self.holds(NOUGHT, rows), (NOUGHT, (((-2, 1), (5, 1)),)))

    def test_across(self):
        for rows in ROWS:
            for q in QS:
                self.assertEqual(self.holds(q, rows)[0], q)

    def test_nought(self):
        for rows in ([(ONE, (4, 1)), ((-2, 1), (2, 1))], [(ONE, (6, 1)), ((-1, 1), (2, 1)), ((-1, 1), (3, 1))],
                     [(HALF, (9, 4)), (ONE, (2, 3))], [(ONE, (2, 1)), (ONE, (1, 2))], [((2, 3), (8, 1)), ((-1, 1), (4, 1))],
                     [((10 ** 11, 7), (10 ** 40, 1)), ((-4 * 10 ** 12, 7), (10, 1))]):
            self.assertEqual(self.holds(NOUGHT, rows), ZERO)
            self.assertEqual(self.holds(ONE, rows), (ONE, ()))

    def test_the_same_pair_with_the_other_sign(self):
        for rows in ROWS:
            turned = [((-c[0], c[1]), r) for c, r in rows]
            self.assertEqual(self.holds(NOUGHT, rows + turned), ZERO)
            self.assertEqual(self.holds(NOUGHT, turned + rows[::-1]), ZERO)
            self.assertEqual(self.holds(ONE, rows + [(c, (r[1], r[0])) for c, r in rows]), (ONE, ()))

    def test_rows_stay(self):
        for rows in ROWS:
            kept = deepcopy(rows)
            answer = settled_number(ONE, rows)
            self.assertEqual(rows, kept)
            self.assertEqual(settled_number(ONE, rows), answer)

    def test_settled_ones(self):
        for rows in ROWS:
            answer = settled_number(ONE, rows)
            again = self.holds(answer[0], list(answer[1]))
            self.assertEqual(again, answer)

    def test_heads(self):
        form, heads = settled(((), (ONE,)), [(HALF, whole([2, -4])), ((-1, 1), whole([0, 6])), (ONE, ((-3, 7),))])
        self.assertEqual(self.holds(NOUGHT, heads), self.holds(NOUGHT, list(heads)))
        self.assertTrue(near(log_worth(*settled_number(NOUGHT, heads)), log_worth(NOUGHT, heads)))

    def test_great_powers(self):
        for n in (2, 6, 97):
            found = self.holds(NOUGHT, [(ONE, (n ** 40, 1)), ((-1, 1), (n ** 39, 1)), (HALF, (n, 1)), (ONE, (1, n ** 17))])
            self.assertEqual(found[1][0][0], (-31, 2))


class Reckoning(unittest.TestCase):
    def samples(self):
        many = [settled_number(q, rows) for q, rows in zip(QS * 99, ROWS)]
        # Ones that are not settled.
        return many + [(q, tuple((c, r) for c, r in rows if c != NOUGHT)) for q, rows in zip(QS * 99, ROWS[:40])]

    def test_plus(self):
        many = self.samples()
        for one, other in zip(many, many[7:] + many[:7]):
            answer = n_plus(one, other)
            self.assertTrue(is_settled_number(answer), answer)
            self.assertTrue(near(log_worth(*answer), FIGURES.add(log_worth(*one), log_worth(*other))))

    def test_plus_its_opposite(self):
        for one in self.samples():
            self.assertEqual(n_plus(one, n_scaled(one, (-1, 1))), ZERO)
            self.assertEqual(n_plus(n_scaled(one, (-1, 1)), one), ZERO)
            self.assertEqual(n_plus(n_plus(one, one), n_scaled(one, (-2, 1))), ZERO)

    def test_plus_nought(self):
        for one in self.samples():
            answer = n_plus(one, ZERO)
            self.assertTrue(is_settled_number(answer))
            self.assertTrue(near(log_worth(*answer), log_worth(*one)))
            self.assertEqual(answer, settled_number(one[0], list(one[1])))

    def test_scaled(self):
        for one in self.samples():
            for c in (ONE, (-1, 1), HALF, (-3, 7), (10 ** 11 - 1, 1)):
                answer = n_scaled(one, c)
                self.assertTrue(is_settled_number(answer), answer)
                self.assertTrue(near(log_worth(*answer), FIGURES.multiply(log_worth(*one), decimal(c))))
            self.assertEqual(n_scaled(one, NOUGHT), ZERO)

    def test_ordinary_ones(self):
        log_2 = (NOUGHT, ((ONE, (2, 1)),))
        self.assertEqual(n_plus(log_2, (HALF, ((ONE, (1, 2)),))), (HALF, ()))
        self.assertEqual(n_plus(log_2, log_2), (NOUGHT, (((2, 1), (2, 1)),)))
        self.assertEqual(n_scaled((HALF, ((ONE, (1, 2)),)), (-2, 1)), ((-1, 1), (((2, 1), (2, 1)),)))


class Signs(unittest.TestCase):
    def sign(self, one, asked):
        answer = sign_of(one)
        self.assertEqual(answer, asked)
        self.assertIs(type(answer), int)

    def both(self, one, asked):
        self.sign(one, asked)
        self.sign(n_scaled(one, (-1, 1)), -asked)

    def test_numbers(self):
        for c in numbers():
            self.sign((c, ()), (c[0] > 0) - (c[0] < 0))

    def test_ordinary_ones(self):
        self.both((NOUGHT, ((ONE, (2, 1)),)), 1)
        self.both((NOUGHT, ((ONE, (1, 2)),)), -1)
        self.both(((-7, 10), ((ONE, (2, 1)),)), -1)
        self.both(((-69, 100), ((ONE, (2, 1)),)), 1)
        self.both((NOUGHT, ((ONE, (9, 1)), ((-3, 1), (2, 1)))), 1)
        self.both((NOUGHT, (((12, 1), (3, 2)), ((-7, 1), (2, 1)))), 1)

    def test_nought(self):
        for one in (ZERO, (NOUGHT, ((ONE, ONE),)), (NOUGHT, ((ONE, (4, 1)), ((-2, 1), (2, 1)))),
                    (NOUGHT, ((HALF, (4, 9)), (ONE, (3, 2)))), (NOUGHT, ((ONE, (6, 35)), (ONE, (35, 6)))),
                    (NOUGHT, ((ONE, (10 ** 79, 1)), ((-79, 1), (10, 1))))):
            self.sign(one, 0)
            self.both((ONE, one[1]), 1)
            self.both(((-1, 10 ** 60), one[1]), -1)

    def test_across(self):
        found = []
        for rows in ROWS:
            for q in QS:
                worth = log_worth(q, rows)
                one = (q, tuple((c, r) for c, r in rows if c != NOUGHT))
                asked = 0 if abs(worth) < NEAR else (1 if worth > 0 else -1)
                self.assertEqual(asked == 0, settled_number(q, rows) == ZERO)
                found.append(asked)
                self.sign(one, asked)
                self.sign(settled_number(q, rows), asked)
        self.assertEqual(set(found), {-1, 0, 1})

    def test_neighbours(self):
        chance = Random(302)
        many = [1, 2, 3, 10, 10 ** 6, 10 ** 20, 10 ** 77, 10 ** 78 - 1]
        many += [chance.randrange(10 ** (figures - 1), 10 ** figures) for figures in range(4, 79, 2)]
        for m in many:
            for c in (ONE, (-1, 1), (2, 3), (10 ** 11, 1), (-1, 10 ** 11)):
                one = (NOUGHT, ((c, lowest(m + 1, m)), ((-c[0], c[1]), lowest(m + 2, m + 1))))
                self.sign(one, 1 if c[0] > 0 else -1)

    def test_near_nought(self):
        chance = Random(303)
        for time in range(30):
            rows = [(drawn_number(chance, 2), drawn_size(chance, chance.randrange(1, 30))) for row in range(1 + time % 4)]
            rows = [(c, r) for c, r in rows if c != NOUGHT and r != ONE]
            # The whole part of 10 ^ 30 times the logarithms; nothing here comes nearer than some 10 ^ -40.
            whole_part = int(FIGURES.scaleb(log_worth(NOUGHT, rows), 30))
            for step in (-2, -1, 0, 1, 2):
                q = lowest(-whole_part + step, 10 ** 30)
                worth = log_worth(q, rows)
                self.assertLess(abs(worth), Decimal(10) ** -29)
                if rows:
                    self.both((q, tuple(rows)), 1 if worth > 0 else -1)


class Held(unittest.TestCase):
    def holds(self, one, width):
        answer = held(one, width)
        self.assertIs(type(answer), tuple)
        low, high = answer
        self.assertTrue(is_number(low) and is_number(high), answer)
        self.assertLessEqual(Fraction(*low), Fraction(*high))
        self.assertLessEqual(Fraction(*high) - Fraction(*low), Fraction(*width))
        q, logs = settled_number(one[0], list(one[1]))
        if logs == ():
            self.assertLessEqual(Fraction(*low), Fraction(*q))
            self.assertLessEqual(Fraction(*q), Fraction(*high))
        else:
            worth = log_worth(*one)
            self.assertLess(decimal(low), worth)
            self.assertLess(worth, decimal(high))
        self.assertEqual(held(one, width), answer)

    def test_ordinary_ones(self):
        for width in ((10, 1), ONE, (1, 3), (1, 10 ** 6), (1, 10 ** 20), (7, 10 ** 40), (1, 10 ** 40)):
            for one in (ZERO, (HALF, ()), ((-2, 3), ((ONE, ONE),)), (NOUGHT, ((ONE, (2, 1)),)), (NOUGHT, (((-1, 1), (3, 1)),)),
                        ((-7, 3), ((HALF, (2, 1)), ((-5, 7), (3, 1)))), (ONE, ((ONE, (1, 2)),)),
                        (NOUGHT, ((ONE, (4, 1)), ((-2, 1), (2, 1))))):
                self.holds(one, width)

    def test_across(self):
        for place, rows in enumerate(ROWS):
            one = (QS[place % 4], tuple((c, r) for c, r in rows if c != NOUGHT))
            for width in ((10, 1), (1, 10 ** (place % 41)), (1, 10 ** 40)):
                self.holds(one, width)
                self.holds(settled_number(*one), width)

    def test_eleven_figures(self):
        chance = Random(304)
        for figures in (1, 5, 20, 79):
            rows = tuple(((chance.choice((1, -1)) * chance.randrange(10 ** 10, 10 ** 11), 1), drawn_size(chance, figures))
                         for row in range(6))
            for width in ((10, 1), (1, 10 ** 17), (1, 10 ** 40)):
                self.holds((NOUGHT, rows), width)
                self.holds(((-(10 ** 11), 7), rows[:1]), width)

    def test_near_to_powers_of_two(self):
        for r in ((2 ** 265 - 1, 1), (2 ** 265 + 1, 1), (2 ** 265, 1), (2 ** 265, 2 ** 265 - 1), (2 ** 264 - 1, 2 ** 264 + 1)):
            for width in ((10, 1), (1, 10 ** 40)):
                self.holds((NOUGHT, ((ONE, r),)), width)

    def test_logarithms_lie_between(self):
        for number in list(range(2, 40)) + [127, 128, 129, 10 ** 6, 2 ** 60 - 1, 2 ** 60, 2 ** 60 + 1, 10 ** 80 - 1]:
            log = log_of(number)
            for bits in (0, 1, 2, 3, 5, 8, 13, 30, 64, 128, 200):
                low, high = log_ends(number, bits)
                scaled = FIGURES.multiply(log, Decimal(2 ** bits))
                self.assertLessEqual(low, scaled)
                self.assertGreaterEqual(high, scaled)
                self.assertLess(high - low, 400 * (bits + 4))


if __name__ == "__main__":
    unittest.main()
