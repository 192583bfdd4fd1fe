import unittest
from copy import deepcopy
from random import Random

from backslope.linear import solved
from backslope.numbers import plus, times
from backslope.polys import common, degree, p_at, p_power, p_times
from samples import NOUGHT, ONE, drawn_number, drawn_poly, drawn_whole, is_number, lowest, rank, weighted, whole


def drawn_rows(chance, many, width, figures, draw=drawn_number):
    return [[draw(chance, figures) for column in range(width)] for line in range(many)]


def summed(rows, factors):
    """The row that is the sum of factors times rows."""
    return [weighted(column, factors) for column in zip(*rows)]


def with_sums(chance, rows, many):
    """Many rows: these, others that are made of them, and one of them twice."""
    result = list(rows)
    while len(result) < many - 1:
        result.append(summed(rows, [(chance.randrange(-3, 4), 1) for row in rows]))
    result.append(list(rows[0]))
    chance.shuffle(result)
    return result


class Case(unittest.TestCase):
    def rows_held(self, rows, many, width):
        self.assertIs(type(rows), tuple)
        self.assertEqual(len(rows), many)
        for row in rows:
            self.row_held(row, width)

    def row_held(self, row, width):
        self.assertIs(type(row), tuple)
        self.assertEqual(len(row), width)
        for number in row:
            self.assertTrue(is_number(number), number)

    def told_held(self, rows, due, told, free):
        """told is a solution of the equations, with so many frees."""
        width = len(rows[0]) if rows else 0
        self.assertIs(type(told), tuple)
        self.assertEqual(len(told), 3)
        self.assertEqual(told[0], "told")
        self.row_held(told[1], width)
        self.rows_held(told[2], free, width)
        self.assertEqual([weighted(row, told[1]) for row in rows], list(due))
        for row in told[2]:
            self.assertEqual([weighted(equation, row) for equation in rows], [NOUGHT] * len(rows))
        self.assertEqual(rank(told[2]), free)

    def none_held(self, rows, due, told):
        self.assertIs(type(told), tuple)
        self.assertEqual(len(told), 2)
        self.assertEqual(told[0], "none")
        self.row_held(told[1], len(rows))
        for column in zip(*rows):
            self.assertEqual(weighted(column, told[1]), NOUGHT)
        self.assertNotEqual(weighted(due, told[1]), NOUGHT)

    def held(self, rows, due):
        """Held against the ranks of the equations with and without due."""
        kept = deepcopy((rows, due))
        told = solved(rows, due)
        self.assertEqual((rows, due), kept)
        self.assertEqual(solved(rows, due), told)
        found = rank(rows)
        if rank([row + [number] for row, number in zip(rows, due)]) == found:
            self.told_held(rows, due, told, (len(rows[0]) if rows else 0) - found)
        else:
            self.none_held(rows, due, told)
        return told[0]


class Edges(Case):
    def test_no_equations(self):
        self.assertEqual(solved([], []), ("told", (), ()))

    def test_no_unknowns(self):
        self.assertEqual(solved([[]], [NOUGHT]), ("told", (), ()))
        self.assertEqual(solved([[], [], []], [NOUGHT] * 3), ("told", (), ()))
        for due in ([ONE], [NOUGHT, (-1, 2)], [(3, 1), NOUGHT], [NOUGHT, (1, 3), NOUGHT, (5, 7)]):
            self.none_held([[] for number in due], due, solved([[] for number in due], due))

    def test_equations_of_noughts(self):
        for many in (1, 2, 3):
            for width in (1, 2, 4):
                rows = [[NOUGHT] * width for line in range(many)]
                self.assertEqual(self.held(rows, [NOUGHT] * many), "told")
                for place in range(many):
                    due = [NOUGHT] * many
                    due[place] = (-2, 3)
                    self.assertEqual(self.held(rows, due), "none")

    def test_one_equation(self):
        self.assertEqual(solved([[(2, 3)]], [(4, 5)]), ("told", ((6, 5),), ()))
        self.assertEqual(solved([[(2, 3)]], [NOUGHT]), ("told", (NOUGHT,), ()))
        self.held([[(2, 3), (-1, 2), NOUGHT, (5, 1)]], [(4, 5)])
        self.held([[NOUGHT, NOUGHT, (5, 1)]], [(4, 5)])

    def test_ordinary_ones(self):
        rows = [[(1, 1), (1, 1)], [(1, 1), (-1, 1)]]
        self.assertEqual(solved(rows, [(3, 1), (1, 2)]), ("told", ((7, 4), (5, 4)), ()))
        rows = [[(1, 1), (2, 1)], [(2, 1), (4, 1)]]
        self.assertEqual(self.held(rows, [(3, 1), (6, 1)]), "told")
        self.assertEqual(self.held(rows, [(3, 1), (7, 1)]), "none")

    def test_a_due_that_only_the_last_equation_spoils(self):
        rows = [[(1, 1), (0, 1)], [(0, 1), (1, 1)], [(1, 2), (1, 3)]]
        self.assertEqual(self.held(rows, [(1, 1), (1, 1), (5, 6)]), "told")
        self.assertEqual(self.held(rows, [(1, 1), (1, 1), (5, 7)]), "none")

    def test_the_first_unknowns_stand_nowhere(self):
        rows = [[NOUGHT, NOUGHT, (3, 1), (1, 1)], [NOUGHT, NOUGHT, (1, 1), (2, 1)]]
        self.assertEqual(self.held(rows, [ONE, (1, 3)]), "told")


class Drawn(Case):
    def test_square_ones(self):
        chance = Random(61)
        for draw in (drawn_whole, drawn_number):
            for figures in (1, 12):
                for many in range(1, 9):
                    rows = drawn_rows(chance, many, many, figures, draw)
                    self.held(rows, [draw(chance, figures) for line in rows])
                    self.held(rows, [NOUGHT] * many)

    def test_wide_and_tall_ones(self):
        chance = Random(62)
        for many, width in ((1, 10), (3, 8), (7, 8), (8, 7), (10, 12), (12, 10), (12, 1)):
            for figures in (1, 12):
                rows = drawn_rows(chance, many, width, figures)
                self.held(rows, [drawn_number(chance, figures) for line in rows])
                solution = [drawn_number(chance, figures) for column in range(width)]
                self.assertEqual(self.held(rows, [weighted(row, solution) for row in rows]), "told")

    def test_equations_that_are_made_of_others(self):
        chance = Random(63)
        for few, many, width in ((1, 3, 2), (2, 8, 8), (4, 8, 8), (7, 8, 8), (4, 12, 10), (9, 12, 10), (5, 7, 3)):
            for figures in (1, 12):
                rows = with_sums(chance, drawn_rows(chance, few, width, figures), many)
                solution = [drawn_number(chance, figures) for column in range(width)]
                due = [weighted(row, solution) for row in rows]
                self.assertEqual(self.held(rows, due), "told")
                self.assertEqual(self.held(rows, [NOUGHT] * many), "told")
                place = chance.randrange(many)
                due[place] = plus(due[place], (1, 10 ** 12))
                self.held(rows, due)
                self.held(rows, [drawn_number(chance, figures) for line in rows])

    def test_one_equation_twice(self):
        rows = [[(1, 2), (3, 1)], [(5, 1), (1, 7)], [(1, 2), (3, 1)]]
        self.assertEqual(self.held(rows, [ONE, (2, 1), ONE]), "told")
        self.assertEqual(self.held(rows, [ONE, (2, 1), (2, 1)]), "none")

    def test_many_noughts(self):
        chance = Random(64)
        for time in range(60):
            rows = [[(chance.choice((0, 0, 0, 1, -1, 2)), 1) for column in range(5)] for line in range(5)]
            self.held(rows, [(chance.choice((0, 0, 1)), 1) for line in rows])

    def test_numbers_of_any_size(self):
        chance = Random(65)
        for figures in (60, 400):
            rows = drawn_rows(chance, 4, 5, figures)
            self.held(rows, [drawn_number(chance, figures) for line in rows])
            self.held(rows + rows[:1], [drawn_number(chance, figures) for line in range(5)])

    def test_numbers_that_likely_primes_divide(self):
        for prime in (2, 3, 101, 65537, 2 ** 31 - 1, 2 ** 61 - 1, 2 ** 127 - 1, (2 ** 31 - 1) * (2 ** 127 - 1)):
            self.assertEqual(self.held([[(prime, 1)]], [ONE]), "told")
            self.assertEqual(self.held([[(1, prime)]], [(1, prime)]), "told")
            self.assertEqual(self.held([[(prime, 1), ONE]], [ONE]), "told")
            self.assertEqual(self.held([[ONE, ONE], [ONE, (prime + 1, 1)]], [ONE, (2, 1)]), "told")
            self.assertEqual(self.held([[ONE, ONE], [ONE, ONE]], [ONE, (prime + 1, 1)]), "none")
            self.assertEqual(self.held([[ONE, ONE], [ONE, (prime + 1, 1)], [(2, 1), NOUGHT]], [ONE, ONE, ONE]), "none")


class Kept(Case):
    def test_what_is_told_stays_when_the_lists_are_changed(self):
        rows = [[ONE, (2, 1), (3, 1)], [ONE, ONE, ONE]]
        due = [ONE, (1, 2)]
        told = solved(rows, due)
        kept = deepcopy(told)
        rows[0][0] = (7, 1)
        rows.append([])
        due[0] = NOUGHT
        self.assertEqual(told, kept)
        self.assertEqual(solved([[ONE, (2, 1), (3, 1)], [ONE, ONE, ONE]], [ONE, (1, 2)]), kept)


class Bounds(Case):
    def told_on_the_spot(self, rows, due, free):
        """Without the rank, which would take long here."""
        told = solved(rows, due)
        self.assertEqual(told[0], "told")
        self.assertEqual([weighted(row, told[1]) for row in rows], due)
        self.rows_held(told[2], free, len(rows[0]))
        for row in told[2][:3]:
            self.assertEqual([weighted(equation, row) for equation in rows], [NOUGHT] * len(rows))
        return told

    def test_120_equations_in_120_unknowns(self):
        chance = Random(66)
        rows = drawn_rows(chance, 120, 120, 1, drawn_whole)
        self.told_on_the_spot(rows, [drawn_whole(chance, 1) for line in rows], 0)
        solution = tuple(drawn_number(chance, 12) for column in rows)
        due = [weighted(row, solution) for row in rows]
        self.assertEqual(self.told_on_the_spot(rows, due, 0)[1], solution)
        due[7] = plus(due[7], ONE)
        rows[7] = summed(rows[8:12], [ONE, (-1, 2), (3, 1), ONE])
        self.none_held(rows, due, solved(rows, due))

    def test_few_equations_in_120_unknowns(self):
        chance = Random(67)
        rows = drawn_rows(chance, 20, 120, 2, drawn_whole)
        self.told_on_the_spot(rows, [drawn_whole(chance, 2) for line in rows], 100)

    def test_120_equations_in_few_unknowns(self):
        chance = Random(68)
        rows = drawn_rows(chance, 120, 20, 12, drawn_whole)
        solution = tuple(drawn_number(chance, 12) for column in range(20))
        due = [weighted(row, solution) for row in rows]
        self.assertEqual(self.told_on_the_spot(rows, due, 0)[1], solution)
        due[119] = plus(due[119], (1, 10 ** 12))
        self.none_held(rows, due, solved(rows, due))


class Polynomials(Case):
    def frees_of(self, P, Q):
        """The equations that say that u P and v Q come to nought, u of lesser degree than Q and v than P."""
        columns = [(NOUGHT,) * place + P for place in range(degree(Q))]
        columns += [(NOUGHT,) * place + Q for place in range(degree(P))]
        high = degree(P) + degree(Q)
        rows = [[column[place] if place < len(column) else NOUGHT for column in columns] for place in range(high)]
        told = solved(rows, [NOUGHT] * high)
        self.told_held(rows, [NOUGHT] * high, told, degree(common(P, Q)))

    def test_common_factors(self):
        chance = Random(69)
        for figures in (1, 12):
            for shared in (0, 1, 2, 3):
                factor = drawn_poly(chance, shared, figures)
                P = p_times(factor, drawn_poly(chance, 2, figures))
                Q = p_times(factor, drawn_poly(chance, 3, figures))
                self.frees_of(P, Q)
        self.frees_of(p_power(whole([1, 1]), 4), p_power(whole([1, 1]), 3))
        self.frees_of(whole([1, 0, 1]), whole([1, 0, 1]))
        self.frees_of(whole([1, 0, 1]), whole([-1, 0, 1]))

    def test_numbers_from_worths(self):
        chance = Random(70)
        for high, figures in ((0, 12), (1, 12), (4, 1), (8, 12), (30, 2)):
            P = drawn_poly(chance, high, figures)
            places = [lowest(top, 2) for top in range(-high, 2 * high + 2)][: high + 1]
            rows = []
            for place in places:
                row = [ONE]
                while len(row) <= high:
                    row.append(times(row[-1], place))
                rows.append(row)
            self.assertEqual(solved(rows, [p_at(P, place) for place in places]), ("told", P, ()))


if __name__ == "__main__":
    unittest.main()
