import unittest
from fractions import Fraction
from random import Random

from backslope.numbers import before, minus
from backslope.places import count_between, rational_roots
from backslope.polys import common, degree, p_at, p_power, p_scaled, p_slope, p_split, p_times, poly
from samples import (
    NOUGHT, ONE, drawn_number, drawn_poly, drawn_whole, is_number, line, lowest, numbers, polys, product, whole)

# Of degree 2 to 5, none nought at a rational place; the second and the third are nought at no real place at all.
WITHOUT = (
    whole([-2, 0, 1]), whole([1, 0, 1]), whole([3, 1, 5]), whole([-2, 0, 0, 1]), whole([1, 1, 1, 1, 1]),
    whole([1, -1, 0, 0, 0, 1]), whole([-3, 0, 7]), ((-1, 3), NOUGHT, NOUGHT, (2, 5)))


def at(roots):
    return product([line(*root) for root in roots])


def rising(roots):
    return sorted(set(roots), key=lambda root: Fraction(*root))


def divisors(top):
    return [divisor for divisor in range(1, abs(top) + 1) if top % divisor == 0]


def roots_tried(wholes):
    """All roots, by all tops that divide the first number but nought over all bottoms that divide the last one."""
    first = [top for top in wholes if top][0]
    tried = {lowest(sign * top, bottom) for top in divisors(first) for bottom in divisors(wholes[-1]) for sign in (1, -1)}
    return rising([c for c in tried | {NOUGHT} if p_at(whole(wholes), c) == NOUGHT])


def changes(values):
    signs = [value > 0 for value in values if value]
    return sum(one != other for one, other in zip(signs, signs[1:]))


def sturm(P, low, high):
    """How many real places there are, low < place <= high, by Sturm's way."""
    chain = [P, p_slope(P)]
    while chain[-1]:
        chain.append(p_scaled(p_split(chain[-2], chain[-1])[1], (-1, 1)))
    chain = [p_split(row, common(P, p_slope(P)))[0] for row in chain[:-1]]
    ends = [[p_at(row, end)[0] for row in chain] if end else None for end in (low, high)]
    below = [row[-1][0] * (-1) ** degree(row) for row in chain] if ends[0] is None else ends[0]
    above = [row[-1][0] for row in chain] if ends[1] is None else ends[1]
    return changes(below) - changes(above)


class Roots(unittest.TestCase):
    def held(self, P, roots):
        told = rational_roots(P)
        self.assertIs(type(told), list)
        for root in told:
            self.assertTrue(is_number(root), root)
            self.assertEqual(p_at(P, root), NOUGHT)
        self.assertEqual(told, rising(roots))

    def test_of_a_number(self):
        for c in numbers():
            if c != NOUGHT:
                self.assertEqual(rational_roots((c,)), [])

    def test_of_degree_1(self):
        for c in numbers():
            self.held((c, ONE), [(-c[0], c[1])])
            self.held((c, (-3, 1)), [lowest(c[0], 3 * c[1])])
            self.held((c, (2, 7)), [lowest(-7 * c[0], 2 * c[1])])

    def test_nought_among_the_roots(self):
        self.held(whole([0, 1]), [NOUGHT])
        self.held(whole([0, 0, 0, -5]), [NOUGHT])
        self.held(whole([0, -2, 1]), [NOUGHT, (2, 1)])
        self.held(whole([0, 0, 3, 2]), [(-3, 2), NOUGHT])
        self.held(whole([0, 0, 1, 0, 1]), [NOUGHT])
        self.held(product([whole([0, 0, 1]), line(1), line(-1)]), [(-1, 1), NOUGHT, (1, 1)])

    def test_none(self):
        for P in WITHOUT:
            self.held(P, [])
            self.held(p_power(P, 3), [])
        self.held(product(WITHOUT), [])

    def test_products(self):
        roots = [(1, 2), (-1, 2), (3, 1), (-7, 3), NOUGHT, (12, 5), (-12, 5), (1, 3), (-1, 1)]
        for many in range(1, len(roots) + 1):
            for factor in (whole([1]), ((-2, 3),)) + WITHOUT:
                self.held(p_times(at(roots[:many]), factor), roots[:many])

    def test_some_alike(self):
        self.held(at([(1, 2), (1, 2)]), [(1, 2)])
        self.held(at([(1, 2), (-3, 1), (1, 2), (-3, 1), (-3, 1), (5, 7)]), [(-3, 1), (1, 2), (5, 7)])
        self.held(product([p_power(line(2, 3), 5), p_power(WITHOUT[0], 2), p_power(line(-2, 3), 2)]), [(-2, 3), (2, 3)])

    def test_places_that_leave_the_same_modulo_small_primes(self):
        roots = [(30030 * top, 1) for top in range(-4, 5)]
        self.held(at(roots), roots)
        roots = [(30030 * top + 1, 30030) for top in range(-3, 4)]
        self.held(at(roots), roots)

    def test_held_against_all_that_can_be(self):
        chance = Random(71)
        found = 0
        for time in range(400):
            wholes = [chance.randrange(-30, 31) for place in range(chance.randrange(2, 7))]
            wholes.append(chance.choice((1, -1)) * chance.randrange(1, 31))
            if time % 2:
                wholes = [number[0] for number in p_times(whole(wholes), line(chance.randrange(-5, 6), 2))]
            tried = roots_tried(wholes)
            found += len(tried)
            self.held(whole(wholes), tried)
        self.assertGreater(found, 200)

    def test_twelve_figures(self):
        chance = Random(72)
        for many in (1, 2, 3, 8):
            roots = [drawn_number(chance, 12) for time in range(many)]
            self.held(at(roots), roots)
            self.held(p_times(at(roots), drawn_poly(chance, 3, 12)), roots)
        self.held(at([(10 ** 12 - 1, 10 ** 12 - 2), (10 ** 12 - 2, 10 ** 12 - 3)]),
                  [(10 ** 12 - 1, 10 ** 12 - 2), (10 ** 12 - 2, 10 ** 12 - 3)])

    def test_two_of_six_figures(self):
        chance = Random(73)
        for time in range(5):
            roots = [drawn_number(chance, 6) for root in range(2)]
            self.held(p_times(at(roots), WITHOUT[time]), roots)

    def test_numbers_of_seventy_six_figures(self):
        chance = Random(74)
        roots = [drawn_number(chance, 76) for time in range(2)]
        self.held(at(roots), roots)
        self.held(p_times(at(roots), drawn_poly(chance, 2, 76)), roots)
        self.held((lowest(*roots[0]), NOUGHT, roots[1]), [])
        # A product of two great primes, which nobody parts.
        one, other = 2 ** 127 - 1, 2 ** 107 - 1
        self.held(whole([one * other, -one - other, 1]), [(other, 1), (one, 1)])
        self.held(whole([one * other, 0, 1]), [])

    def test_numbers_of_any_size(self):
        for figures in (400, 3000):
            self.held(at([(10 ** figures, 1), (10 ** figures + 1, 1)]), [(10 ** figures, 1), (10 ** figures + 1, 1)])
            self.held(at([(1, 10 ** figures), (-1, 10 ** figures)]), [(1, 10 ** figures), (-1, 10 ** figures)])

    def test_degree_100(self):
        chance = Random(75)
        self.held(at([(top, 1) for top in range(-50, 50)]), [(top, 1) for top in range(-50, 50)])
        roots = [drawn_number(chance, 3) for time in range(40)]
        self.held(p_times(at(roots), drawn_poly(chance, 60, 12, drawn_whole)), roots)
        self.held(drawn_poly(chance, 100, 12), [])
        self.held(whole([-1] + [0] * 99 + [1]), [(-1, 1), (1, 1)])
        self.held(whole([1] + [0] * 99 + [1]), [])

    def test_what_is_told_may_be_changed(self):
        P = at([(1, 2), (3, 1)])
        rational_roots(P).append((5, 1))
        self.assertEqual(rational_roots(P), [(1, 2), (3, 1)])


class Count(unittest.TestCase):
    def held(self, P, low, high, many):
        told = count_between(P, low, high)
        self.assertIs(type(told), int)
        self.assertEqual(told, many)

    def against(self, P, places, ends):
        """Held for all pairs of ends against the rational places, the only ones where P is nought."""
        ends = [None] + rising(ends) + [None]
        for k, low in enumerate(ends[:-1]):
            for high in ends[k + 1:]:
                inside = [place for place in places if low is None or before(low, place)]
                inside = [place for place in inside if high is None or not before(high, place)]
                self.held(P, low, high, len(inside))

    def test_of_a_number(self):
        for P in (whole([1]), whole([-7]), ((2, 3),)):
            for low in (None, (-1, 1)):
                for high in (None, (5, 2)):
                    self.held(P, low, high, 0)

    def test_of_degree_1(self):
        for c in numbers():
            P = (c, (3, 1))
            place = lowest(-c[0], 3 * c[1])
            self.against(P, [place], [place, (place[0] - place[1], place[1]), (place[0] + place[1], place[1])])

    def test_nought(self):
        for n in (1, 2, 5):
            self.against(whole([0] * n + [1]), [NOUGHT], [NOUGHT, (-1, 10 ** 30), (1, 10 ** 30), (7, 1), (-7, 1)])

    def test_low_does_not_count_and_high_does(self):
        P = at([(1, 2), (3, 1)])
        self.held(P, (1, 2), (3, 1), 1)
        self.held(P, (1, 2), (5, 2), 0)
        self.held(P, NOUGHT, (1, 2), 1)
        self.held(P, NOUGHT, (3, 1), 2)
        self.held(P, (3, 1), (4, 1), 0)
        self.held(P, (3, 1), None, 0)
        self.held(P, None, (1, 2), 1)

    def test_rational_places(self):
        places = [(-12, 5), (-1, 1), NOUGHT, (1, 3), (1, 2), (2, 1), (40, 3)]
        ends = places + [(-3, 1), (-1, 2), (2, 5), (1, 1), (13, 1), (14, 1)]
        self.against(at(places), places, ends)
        self.against(p_times(at(places), WITHOUT[1]), places, ends)
        self.against(p_scaled(p_times(at(places), WITHOUT[2]), (-2, 7)), places, ends)

    def test_double_places(self):
        places = [(-1, 1), (1, 3), (2, 1)]
        P = product([p_power(line(*place), n) for place, n in zip(places, (2, 3, 5))] + [p_power(WITHOUT[1], 2)])
        self.against(P, places, places + [(-2, 1), NOUGHT, (1, 1), (3, 1)])

    def test_places_that_are_not_rational(self):
        P = whole([-2, 0, 1])
        self.held(P, None, None, 2)
        self.held(P, NOUGHT, None, 1)
        self.held(P, None, NOUGHT, 1)
        self.held(P, (-3, 2), (3, 2), 2)
        self.held(P, (-7, 5), (7, 5), 0)
        self.held(P, (14142135623, 10 ** 10), (14142135624, 10 ** 10), 1)
        self.held(P, (14142135624, 10 ** 10), None, 0)
        self.held(P, None, (-14142135624, 10 ** 10), 0)
        self.held(P, None, (-14142135623, 10 ** 10), 1)
        self.held(p_power(P, 3), None, None, 2)
        self.held(p_times(P, whole([-3, 0, 1])), (7, 5), (9, 5), 2)
        self.held(p_times(P, whole([-3, 0, 1])), (7, 5), (17, 10), 1)
        self.held(whole([2, 0, 1]), None, None, 0)
        self.held(whole([-2, 0, 0, 1]), None, None, 1)

    def test_places_far_off(self):
        for figures in (12, 60):
            far = (10 ** figures, 1)
            near = (1, 10 ** figures)
            places = [(-far[0], 1), (-1, near[1]), near, far]
            self.against(at(places), places, places + [NOUGHT, ONE, (far[0] + 1, 1), (-far[0] - 1, 1)])

    def test_two_close_places(self):
        gap = 10 ** 9
        places = [(1, 3), (gap + 3, 3 * gap)]
        self.assertEqual(minus(places[1], places[0]), (1, gap))
        between = (2 * gap + 3, 6 * gap)
        for factor in (whole([1]), WITHOUT[1], p_power(line(1, 3), 2)):
            self.against(p_times(at(places), factor), places, places + [between, NOUGHT, (1, 2)])
        # The places where (x - 1) ^ 2 is 2 over 10 ^ 18 and 10 ^ 60, and where x ^ 2 + 10 ^ -40 is nought: nowhere.
        for size in (10 ** 18, 10 ** 60):
            self.held(whole([size - 2, -2 * size, size]), None, None, 2)
            self.held(whole([size - 2, -2 * size, size]), NOUGHT, ONE, 1)
            self.held(whole([size + 2, -2 * size, size]), None, None, 0)

    def test_held_against_sturm(self):
        chance = Random(76)
        ends = [None] + [(top, 2) for top in range(-9, 10, 2)] + [None]
        for time in range(80):
            P = drawn_poly(chance, chance.randrange(1, 9), chance.choice((1, 1, 12)))
            if time % 4 == 0:
                P = p_times(P, p_power(drawn_poly(chance, 1, 1), 2))
            total = 0
            for low, high in zip(ends, ends[1:]):
                many = sturm(P, low, high)
                total += many
                self.held(P, low, high, many)
            self.held(P, None, None, total)

    def test_counts_between_neighbours_come_together(self):
        for P in [P for P in polys() if P != ()] + [product(WITHOUT)]:
            ends = [None, (-5, 1), (-4, 3), (-1, 1), NOUGHT, (1, 10 ** 6), (2, 3), (1, 1), (9, 2), None]
            self.held(P, None, None, sum(count_between(P, low, high) for low, high in zip(ends, ends[1:])))

    def test_numbers_of_any_size(self):
        far = 10 ** 400
        places = [(far, 1), (far + 1, 1)]
        self.against(at(places), places, places + [NOUGHT, (far - 1, 1), (2 * far + 1, 2)])

    def test_degree_100(self):
        places = [(top, 2) for top in range(-99, 101, 2)]
        P = at(places)
        self.held(P, None, None, 100)
        self.held(P, (-1, 2), (51, 2), 26)
        self.held(P, (-1, 1), None, 51)
        # Nought at 100 places, between -1 and 1 all of them, half of them above nought.
        one, other = whole([1]), whole([0, 1])
        for n in range(99):
            one, other = other, poly([minus(left, right) for left, right in zip(
                p_times(whole([0, 2]), other), one + (NOUGHT,) * (degree(other) + 2 - len(one)))])
        self.assertEqual(degree(other), 100)
        self.held(other, None, None, 100)
        self.held(other, (-1, 1), NOUGHT, 50)
        self.held(other, ONE, None, 0)
        self.held(whole([1] + [0] * 99 + [1]), None, None, 0)
        self.held(whole([-2] + [0] * 99 + [1]), None, None, 2)
        chance = Random(77)
        P = drawn_poly(chance, 100, 12)
        self.held(P, None, None, count_between(P, None, (1, 3)) + count_between(P, (1, 3), None))


if __name__ == "__main__":
    unittest.main()
