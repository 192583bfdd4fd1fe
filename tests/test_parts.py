import unittest
from random import Random

from backslope.parts import (
    inverse, is_nought_over, least, least_over, meets, put_into, radical, simple_parts)
from backslope.polys import (
    common, degree, monic, p_moved, p_plus, p_power, p_scaled, p_slope, p_split, p_times, poly)
from samples import NOUGHT, ONE, UNIT, drawn_number, drawn_poly, drawn_whole, is_poly, line, polys, product, rank, whole

X = (NOUGHT, ONE)
# None of them can be parted, and no two have a common factor.
PRIMES = (
    X, whole([1, 1]), ((-1, 2), ONE), whole([1, 0, 1]), whole([-2, 0, 1]), whole([2, 0, 0, 1]),
    whole([1, 1, 1, 1, 1]), ((-10 ** 12 + 1, 10 ** 12 - 3), ONE), ((2, 3), (1, 5), ONE))


def rest(P, W):
    return p_split(P, W)[1]


class PartsCase(unittest.TestCase):
    def same(self, told, asked):
        self.assertTrue(is_poly(told), told)
        self.assertEqual(told, asked)


class SimpleParts(PartsCase):
    def held(self, P):
        told = simple_parts(P)
        self.assertIs(type(told), list)
        for place, S in enumerate(told):
            self.assertTrue(is_poly(S))
            self.assertEqual(S[-1], ONE)
            self.assertEqual(common(S, p_slope(S)), UNIT)
            for other in told[:place]:
                self.assertEqual(common(S, other), UNIT)
        if told:
            self.assertGreater(degree(told[-1]), 0)
        self.same(product([p_power(S, n + 1) for n, S in enumerate(told)]), monic(P))
        self.same(radical(P), product(told))
        return told

    def test_degree_0(self):
        for c in (ONE, (-2, 3), (10 ** 60, 7)):
            self.assertEqual(simple_parts((c,)), [])
            self.same(radical((c,)), UNIT)

    def test_one_factor(self):
        for S in PRIMES:
            for n in range(1, 9):
                self.assertEqual(self.held(p_power(S, n)), [UNIT] * (n - 1) + [S])
                self.same(radical(p_scaled(p_power(S, n), (-2, 3))), S)

    def test_ordinary_ones(self):
        P = product([line(1), p_power(line(-1), 2), p_power(whole([1, 0, 1]), 2), (((-3, 5),))])
        self.assertEqual(simple_parts(P), [line(1), p_times(line(-1), whole([1, 0, 1]))])
        self.same(radical(P), product([line(1), line(-1), whole([1, 0, 1])]))

    def test_powers_left_out(self):
        P = product([p_power(PRIMES[3], 2), p_power(PRIMES[4], 5), ((-7, 2),)])
        self.assertEqual(self.held(P), [UNIT, PRIMES[3], UNIT, UNIT, PRIMES[4]])
        P = product([PRIMES[0], p_power(PRIMES[1], 8)])
        self.assertEqual(self.held(P), [PRIMES[0], UNIT, UNIT, UNIT, UNIT, UNIT, UNIT, PRIMES[1]])
        P = product([p_power(PRIMES[5], 3), p_power(PRIMES[2], 3), p_power(PRIMES[0], 7)])
        self.assertEqual(self.held(P), [UNIT, UNIT, p_times(PRIMES[5], PRIMES[2]), UNIT, UNIT, UNIT, PRIMES[0]])

    def test_drawn_powers(self):
        chance = Random(81)
        for time in range(40):
            powers = {}
            for S in chance.sample(PRIMES, 4):
                powers.setdefault(chance.randrange(1, 9), []).append(S)
            asked = [product(powers.get(n, [])) for n in range(1, max(powers) + 1)]
            P = product([p_power(S, n) for n, parts in powers.items() for S in parts])
            self.assertEqual(self.held(p_scaled(P, drawn_number(chance, 12)) if time % 2 else P), asked)

    def test_all_samples(self):
        for P in polys():
            if P != ():
                self.held(P)
                self.held(p_times(P, P))

    def test_numbers_of_any_size(self):
        one, other = line(10 ** 400), whole([10 ** 400, 0, 1])
        self.assertEqual(self.held(p_times(one, p_power(other, 2))), [one, other])

    def test_degree_100(self):
        self.assertEqual(simple_parts(whole([0] * 100 + [3])), [UNIT] * 99 + [X])
        chance = Random(82)
        S = [drawn_poly(chance, high, 12, drawn_whole) for high in (40, 15, 10)]
        P = product([S[0], p_power(S[1], 2), p_power(S[2], 3)])
        self.assertEqual(simple_parts(P), [monic(part) for part in S])
        self.same(radical(P), monic(product(S)))

    def test_what_is_told_may_be_changed(self):
        P = p_power(PRIMES[3], 2)
        simple_parts(P).append(X)
        self.assertEqual(simple_parts(P), [UNIT, PRIMES[3]])


class Inverse(PartsCase):
    def held(self, P, W):
        told = inverse(P, W)
        if degree(common(P, W)) == 0:
            self.assertTrue(is_poly(told))
            self.assertLess(degree(told), degree(W))
            self.same(rest(p_times(told, P), W), UNIT)
        else:
            self.assertIsNone(told)

    def test_ordinary_ones(self):
        self.same(inverse(X, whole([1, 0, 1])), whole([0, -1]))
        self.same(inverse(whole([2]), X), ((1, 2),))
        self.same(inverse(whole([1, 0, 1]), line(3)), ((1, 10),))

    def test_nought(self):
        for W in PRIMES:
            self.assertIsNone(inverse((), W))
            self.assertIsNone(inverse((), p_times(W, W)))

    def test_multiples_and_common_factors(self):
        for W in PRIMES:
            self.assertIsNone(inverse(W, W))
            self.assertIsNone(inverse(p_times(W, whole([5, 3, 1])), W))
            self.assertIsNone(inverse(W, p_times(W, whole([5, 3, 1]))))
            self.assertIsNone(inverse(p_scaled(W, (-2, 3)), p_times(W, W)))

    def test_numbers(self):
        for W in PRIMES:
            for c in (ONE, (-2, 3), (10 ** 60, 7)):
                self.same(inverse((c,), W), ((c[1], c[0]) if c[0] > 0 else (-c[1], -c[0]),))

    def test_all_samples(self):
        for P in polys():
            for W in [monic(W) for W in polys() if degree(W) > 0] + [product(PRIMES[:4]), p_power(PRIMES[3], 3)]:
                self.held(P, W)

    def test_of_greater_degree(self):
        chance = Random(83)
        for high in (3, 8, 20):
            P = drawn_poly(chance, high, 12)
            for W in PRIMES:
                self.held(P, W)
                self.held(p_times(P, W), W)
                self.held(p_plus(p_times(P, W), UNIT), W)

    def test_degree_100(self):
        chance = Random(84)
        W = drawn_poly(chance, 99, 1, drawn_whole) + UNIT
        self.held(drawn_poly(chance, 100, 1, drawn_whole), W)
        self.held(drawn_poly(chance, 3, 12), W)
        self.held(drawn_poly(chance, 100, 12), whole([5, 1, 1]))


class Least(PartsCase):
    def held(self, P, W):
        told = least(P, W)
        self.assertTrue(is_poly(told))
        self.assertEqual(told[-1], ONE)
        self.assertTrue(1 <= degree(told) <= degree(W))
        self.assertEqual(put_into(told, P, W), ())
        # None of lesser degree: the lesser powers aren't made of one another.
        powers = [UNIT]
        while len(powers) < degree(told):
            powers.append(rest(p_times(powers[-1], P), W))
        rows = [list(power) + [NOUGHT] * (degree(W) - len(power)) for power in powers]
        self.assertEqual(rank(rows), degree(told))
        return told

    def test_nought_and_numbers(self):
        for W in PRIMES + (p_power(PRIMES[3], 2), p_power(X, 5)):
            self.same(least((), W), X)
            for c in (ONE, (-2, 3), (10 ** 60, 7)):
                self.same(least((c,), W), ((-c[0], c[1]), ONE))
            self.same(least(W, W), X)
            self.same(least(p_plus(p_times(W, W), ((2, 3),)), W), ((-2, 3), ONE))

    def test_of_x(self):
        for W in PRIMES + (p_power(PRIMES[3], 2), p_power(X, 5), product(PRIMES[:5])):
            self.same(least(X, W), W)

    def test_ordinary_ones(self):
        self.same(least(whole([0, 0, 1]), whole([-2, 0, 0, 0, 1])), whole([-2, 0, 1]))
        self.same(least(whole([1, 1]), whole([-2, 0, 1])), whole([-1, -2, 1]))
        self.same(least(whole([0, 0, 1]), whole([-4, 0, 1])), whole([-4, 1]))
        self.same(least(whole([0, 2]), whole([-2, 0, 0, 1])), whole([-16, 0, 0, 1]))

    def test_double_factors(self):
        S = whole([1, 0, 1])
        for n in range(1, 5):
            self.same(least(S, p_power(S, n)), whole([0] * n + [1]))
            self.same(least(p_power(S, 2), p_power(S, n)), whole([0] * ((n + 1) // 2) + [1]))
        for W in (p_power(S, 3), p_times(p_power(X, 3), p_power(line(1), 2)), product([S, S, PRIMES[5]])):
            for P in (X, whole([3, 0, 1]), whole([0, 1, 1]), ((1, 2), NOUGHT, NOUGHT, (-1, 3)), S, p_times(S, X)):
                self.held(P, W)

    def test_all_samples(self):
        for P in polys():
            for W in PRIMES + (p_times(PRIMES[3], PRIMES[4]), p_power(PRIMES[8], 2)):
                self.held(P, W)

    def test_of_greater_degree(self):
        chance = Random(85)
        for W in (PRIMES[5], p_power(PRIMES[4], 2), product([X, PRIMES[3], PRIMES[3]])):
            for high in (5, 8, 12):
                self.held(drawn_poly(chance, high, 12), W)

    def test_drawn_ones(self):
        chance = Random(86)
        for high in range(1, 6):
            for figures in (1, 12):
                W = monic(drawn_poly(chance, high, figures))
                self.held(drawn_poly(chance, high, figures), W)

    def test_of_powers_of_x(self):
        for n in range(1, 13):
            self.assertEqual(degree(self.held(whole([0] * n + [1]), whole([-2] + [0] * 11 + [1]))), [
                None, 12, 6, 4, 3, 12, 2, 12, 3, 4, 6, 12, 1][n])

    def test_bottoms_that_likely_primes_divide(self):
        for prime in (2, 2 ** 31 - 1, 2 ** 61 - 1, 2 ** 127 - 1):
            self.held(((1, prime), ONE, ONE), ((2, prime), NOUGHT, ONE, ONE))
            self.held(whole([1, prime]), whole([1, 0, 3, 1]))
            self.same(least(whole([0, prime]), whole([-2, 0, 1])), whole([-2 * prime ** 2, 0, 1]))
            self.held(whole([1, prime, 1]), whole([-2, 0, 0, 1]))

    def test_great_degrees(self):
        chance = Random(87)
        W = drawn_poly(chance, 29, 1, drawn_whole) + UNIT
        self.held(drawn_poly(chance, 30, 1, drawn_whole), W)
        W = whole([-2] + [0] * 99 + [1])
        self.same(least(whole([0] * 50 + [1]), W), whole([-2, 0, 1]))
        self.same(least(whole([0] * 4 + [3]), W), whole([-2 * 3 ** 25] + [0] * 24 + [1]))


class PutInto(PartsCase):
    def held(self, m, P, W):
        asked = ()
        power = UNIT
        for number in m:
            asked = p_plus(asked, p_scaled(power, number))
            power = p_times(power, P)
        self.same(put_into(m, P, W), rest(asked, W))

    def test_ordinary_ones(self):
        self.same(put_into(whole([1, 0, 1]), X, whole([1, 0, 1])), ())
        self.same(put_into(whole([1, 2, 3]), X, whole([1, 0, 1])), whole([-2, 2]))
        self.same(put_into(whole([0, 0, 1]), whole([1, 1]), whole([-2, 0, 1])), whole([3, 2]))

    def test_nought(self):
        for W in PRIMES:
            for P in polys():
                self.same(put_into((), P, W), ())
                self.same(put_into(P, (), W), P[:1] if P[:1] != (NOUGHT,) else ())

    def test_numbers(self):
        for W in PRIMES:
            for P in polys():
                self.same(put_into(((-2, 3),), P, W), ((-2, 3),))
                self.same(put_into(X, P, W), rest(P, W))

    def test_all_samples(self):
        for m in polys():
            for P in polys():
                if degree(m) < 4 and degree(P) < 5:
                    for W in (X, PRIMES[5], PRIMES[8], p_power(PRIMES[3], 2)):
                        self.held(m, P, W)

    def test_degree_100(self):
        chance = Random(88)
        m = drawn_poly(chance, 100, 12)
        self.same(put_into(m, X, whole([-1] + [0] * 99 + [1])), poly([p_plus(m[:1], m[100:])[0]] + list(m[1:100])))
        self.same(put_into(m, X, line(1)), put_into(m, UNIT, X))


class Over(PartsCase):
    """What the way back needs of a quotient modulo W without double factors."""

    def held(self, P, Q, W):
        quotient = p_times(P, inverse(Q, W))
        m = least(quotient, W)
        self.same(least_over(P, Q, W), m)
        for other in (m, p_times(m, X), p_scaled(m, (-2, 3)), p_plus(m, UNIT), X, UNIT, whole([1, 0, 1])):
            self.assertIs(is_nought_over(other, P, Q, W), put_into(other, quotient, W) == ())

    def test_all_samples(self):
        for W in PRIMES + (product(PRIMES[:5]), p_times(PRIMES[5], PRIMES[8])):
            for P in polys()[:11]:
                for Q in (UNIT, whole([3, 1]), p_slope(W), p_times(p_slope(W), whole([5, 0, 0, 0, 1])), ((3, 7), (1, 2))):
                    self.held(P, Q, W)

    def test_numbers_at_some_places(self):
        W = product(PRIMES[:6])
        for part in PRIMES[:6]:
            for c in (NOUGHT, ONE, (-3, 7)):
                P = p_plus(p_times(part, whole([2, 5])), p_scaled(p_slope(W), c))
                self.held(P, p_slope(W), W)

    def test_drawn_ones(self):
        chance = Random(87)
        for high in range(1, 6):
            for figures in (1, 12):
                W = monic(drawn_poly(chance, high, figures))
                self.held(drawn_poly(chance, high + 2, figures), drawn_poly(chance, high, figures), W)

    def test_primes_that_do_not_tell(self):
        for prime in (2 ** 31 - 1, 2 ** 61 - 1, 2 ** 127 - 1):
            self.held(X, UNIT, p_times(line(1), line(prime + 1)))
            self.held(X, UNIT, p_times(line(1), line(1 - 2 * prime)))
            self.held(X, whole([prime]), PRIMES[4])
            self.held(((1, prime), ONE), whole([3, 1]), PRIMES[4])
            self.held(whole([1, 1]), whole([prime, 0, 1]), product([X, line(2), PRIMES[4]]))
            self.held(whole([1, 1]), whole([prime, 1]), product([X, line(3), PRIMES[4]]))
            self.held(UNIT, whole([3, 1]), whole([prime, 0, 1]))
            self.held(UNIT, X, line(prime))
            self.held(UNIT, X, ((-1, prime), ONE))
            self.held(X, UNIT, ((2, prime), NOUGHT, ONE))


class Meets(PartsCase):
    def held(self, P, Q, asked):
        told = meets(P, Q)
        self.assertIs(type(told), list)
        self.assertEqual([type(h) for h in told], [int] * len(told))
        self.assertEqual(told, asked)
        self.assertEqual(meets(Q, P), [-h for h in reversed(asked)])

    def tried(self, P, Q, reach):
        """Held against all whole numbers as far as the places of both can lie apart."""
        asked = [h for h in range(-reach, reach + 1) if degree(common(P, p_moved(Q, (h, 1)))) > 0]
        self.held(P, Q, asked)
        return len(asked)

    def test_degree_0(self):
        for P in polys():
            if P != ():
                for c in (ONE, (-2, 3)):
                    self.held(P, (c,), [])

    def test_lines(self):
        self.held(X, X, [0])
        self.held(line(2), line(5), [3])
        self.held(line(5), line(2), [-3])
        self.held(line(1, 2), line(7, 2), [3])
        self.held(line(1, 2), line(1), [])
        self.held(line(1, 2), line(1, 3), [])
        self.held(line(-12345), line(54321), [66666])
        self.held(line(1, 3), line(-10 ** 12 * 3 + 1, 3), [-(10 ** 12)])

    def test_products_of_lines(self):
        P = product([line(0), line(1), line(1), line(1, 2)])
        Q = product([line(3), line(5), line(-7, 2), line(10 ** 5)])
        self.held(P, Q, [-4, 2, 3, 4, 5, 10 ** 5 - 1, 10 ** 5])
        self.held(P, P, [-1, 0, 1])
        W = product([line(top) for top in range(1, 21)])
        self.held(W, W, list(range(-19, 20)))
        self.held(W, p_power(line(10), 3), list(range(-10, 10)))

    def test_factors_without_a_rational_root(self):
        for S in (whole([1, 0, 1]), whole([-2, 0, 1]), whole([2, 0, 0, 1]), whole([1, 1, 1, 1, 1]),
                  ((2, 3), (1, 5), ONE), p_times(whole([1, 0, 1]), whole([2, 0, 0, 1]))):
            for h in (-40, -3, -1, 0, 1, 2, 7, 12345, -54321, 99999):
                self.held(p_moved(S, (h, 1)), S, [h])
                self.held(p_times(p_moved(S, (h, 1)), line(1, 7)), p_times(S, line(1, 5)), [h])
            self.held(p_moved(S, (1, 2)), S, [])

    def test_factors_that_look_alike(self):
        self.held(whole([1, 0, 1]), whole([2, 0, 1]), [])
        self.held(whole([-2, 0, 1]), whole([-8, 0, 1]), [])
        self.held(whole([-2, 0, 0, 1]), whole([2, 0, 0, 1]), [])
        self.held(whole([-2, 0, 0, 0, 1]), whole([-3, 0, 0, 0, 1]), [])
        self.held(whole([-2, 0, 1]), p_times(whole([-3, 0, 1]), whole([2, -4, 1])), [2])

    def test_several_at_once(self):
        one, other = whole([1, 0, 1]), whole([2, 0, 0, 1])
        P = product([one, other, p_moved(other, (5, 1)), line(3)])
        Q = product([p_moved(other, (-3, 1)), p_moved(one, (99999, 1)), line(100), line(3, 2)])
        self.held(P, Q, [-99999, 3, 8, 97])

    def test_double_factors(self):
        S = whole([1, 0, 1])
        self.held(p_power(S, 3), p_power(p_moved(S, (-4, 1)), 2), [4])
        self.held(p_times(p_power(S, 3), X), p_times(p_moved(S, (-4, 1)), p_power(line(4), 2)), [4])

    def test_with_itself_moved(self):
        chance = Random(89)
        for P in polys():
            if degree(P) > 0:
                for h in (0, 1, -1, 17, -12345, 10 ** 12):
                    self.assertIn(h, meets(p_moved(P, (h, 1)), P))
                    self.assertIn(-h, meets(P, p_moved(P, (h, 1))))
        for high in (2, 5, 8):
            P = drawn_poly(chance, high, 12)
            self.held(p_moved(P, (-7, 1)), P, [-7])

    def test_held_against_all_that_can_be(self):
        chance = Random(90)
        found = 0
        for time in range(60):
            factors = [drawn_poly(chance, chance.choice((1, 1, 2)), 1, drawn_whole) for factor in range(3)]
            P = product(factors[:2])
            Q = p_times(factors[2], p_moved(factors[0], (chance.randrange(-9, 10), 1)))
            found += self.tried(P, Q, 40)
        self.assertGreater(found, 60)

    def test_scaled_ones(self):
        P = p_times(whole([1, 0, 1]), line(1, 2))
        self.held(p_scaled(P, (-2, 7)), p_scaled(p_moved(P, (3, 1)), (10 ** 12, 11)), [-3])

    def test_numbers_of_any_size(self):
        for h in (10 ** 60, -(10 ** 400)):
            self.held(p_moved(whole([1, 0, 1]), (h, 1)), whole([1, 0, 1]), [h])
            self.held(line(3), p_times(line(h), line(h + 5)), [h - 3, h + 2])
        self.held(whole([1, 0, 10 ** 60]), p_moved(whole([1, 0, 10 ** 60]), (5, 1)), [-5])

    def test_places_that_leave_the_same_modulo_small_primes(self):
        W = product([line(30030 * top) for top in range(5)])
        self.held(W, W, [30030 * top for top in range(-4, 5)])

    def test_degree_100(self):
        chance = Random(91)
        P = drawn_poly(chance, 100, 12, drawn_whole)
        self.held(P, p_moved(P, (12345, 1)), [-12345])
        self.held(P, drawn_poly(chance, 100, 12, drawn_whole), [])
        W = product([line(top) for top in range(100)])
        self.held(W, line(-5), list(range(-104, -4)))

    def test_what_is_told_may_be_changed(self):
        meets(X, line(1)).append(7)
        self.assertEqual(meets(X, line(1)), [1])


if __name__ == "__main__":
    unittest.main()
