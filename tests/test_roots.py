import unittest
from fractions import Fraction
from random import Random

from backslope.back import back
from backslope.backpaper import shows_none
from backslope.errors import NoText, Nought
from backslope.forms import form_plus, form_scaled, form_slope, settled
from backslope.fractions import f_at, f_minus, f_number, f_over, f_plus, f_poly, f_times, fraction
from backslope.polys import degree, p_plus, p_scaled, p_times
from backslope.roots import joined, parted, read_root, root_back, root_shows, root_slope, x_of
from backslope.texts import show_number
from samples import (
    CIRCLE, HALF, NOUGHT, ONE, SQUARE, UNIT, X, ZERO, drawn_fraction, drawn_number, drawn_poly, is_form, is_fraction,
    line, lowest, pair, product, whole)

Y = (X, UNIT)
LINES = (
    (ONE, NOUGHT), (ONE, ONE), ((2, 1), (-3, 1)), ((-1, 1), (4, 1)), ((-2, 3), (5, 7)), ((1, 6), (-1, 4)),
    ((10 ** 12 - 2, 7), (-(10 ** 12) + 1, 10 ** 12 - 2)))
KINDS = tuple((n, a, b) for n in (2, 3, 4) for a, b in LINES)
FEW = ((2, (-2, 3), (5, 7)), (3, ONE, NOUGHT), (3, (2, 1), (-3, 1)), (4, (1, 6), (-1, 4)))
PLACES = (Fraction(2), Fraction(-3), Fraction(5, 7), Fraction(-11, 6))


def to_the(i):
    return f_poly(whole([0] * i + [1]))


def x_at(kind, c):
    """The x that y = c has."""
    n, a, b = kind
    return (c ** n - Fraction(*b)) / Fraction(*a)


def worth_at(F, c):
    told = f_at(F, pair(c))
    return None if told is None else Fraction(*told)


def under(kind):
    """a x + b as a fraction in x."""
    return f_poly((kind[2], kind[1]))


def by_y(kind):
    """The slope of x by y."""
    return f_times(f_number(lowest(kind[0] * kind[1][1], kind[1][0])), to_the(kind[0] - 1))


def drawn_form(chance, many, figures):
    rows = [(drawn_number(chance, figures), drawn_poly(chance, 1, figures)) for row in range(many)]
    return settled(drawn_fraction(chance, chance.randrange(-1, 3), chance.randrange(3), figures), rows)[0]


def wild(chance):
    """(p y + q) / (y y + s y + t) whose bottom has no rational place, and whose residues are no numbers."""
    while True:
        p, q, s, t = [chance.randrange(-5, 6) for place in range(4)]
        under_root = s * s - 4 * t
        if (p, q) != (0, 0) and 2 * q != p * s and round(abs(under_root) ** 0.5) ** 2 != under_root:
            return fraction(p_plus(p_scaled(X, (p, 1)), p_scaled(UNIT, (q, 1))), whole([t, s, 1]))


class Kinds(unittest.TestCase):
    def test_x(self):
        for kind in KINDS:
            told = x_of(kind)
            self.assertTrue(is_fraction(told))
            self.assertEqual(f_plus(f_times(f_number(kind[1]), told), f_number(kind[2])), to_the(kind[0]))
            for c in PLACES:
                self.assertEqual(worth_at(told, c), x_at(kind, c))
            self.assertEqual(x_of(kind), told)

    def test_ordinary_ones(self):
        self.assertEqual(x_of((2, ONE, NOUGHT)), (whole([0, 0, 1]), UNIT))
        self.assertEqual(x_of((3, (-2, 1), (1, 2))), (((1, 4), NOUGHT, NOUGHT, (-1, 2)), UNIT))
        self.assertEqual(x_of((4, (2, 3), (-1, 1))), (((3, 2), NOUGHT, NOUGHT, NOUGHT, (3, 2)), UNIT))


class Reading(unittest.TestCase):
    def refused(self, kind, text, refusal):
        with self.assertRaises(refusal) as caught:
            read_root(kind, text)
        self.assertIs(type(caught.exception), refusal)

    def test_worths(self):
        texts = {
            "x": lambda x, y: x, "y": lambda x, y: y, "7": lambda x, y: 7, "-3/4": lambda x, y: Fraction(-3, 4),
            "x + y": lambda x, y: x + y, "x-y": lambda x, y: x - y, "x*y": lambda x, y: x * y,
            "x/y": lambda x, y: x / y, "2*x^3*y - y^5/7": lambda x, y: 2 * x ** 3 * y - y ** 5 / 7,
            "-y^2": lambda x, y: -y ** 2, "(x - y)^3/(x*x + 3)": lambda x, y: (x - y) ** 3 / (x * x + 3),
            "1/(y^2 + y + 1) - x": lambda x, y: 1 / (y ** 2 + y + 1) - x, "x^0 + y^0": lambda x, y: Fraction(2),
            "x - -y": lambda x, y: x + y, "x/y/y*x": lambda x, y: x * x / y / y}
        for kind in KINDS:
            for text, meaning in texts.items():
                told = read_root(kind, text)
                self.assertTrue(is_fraction(told))
                self.assertEqual(read_root(kind, text), told)
                for c in PLACES:
                    self.assertEqual(worth_at(told, c), meaning(x_at(kind, c), c), text)

    def test_letters(self):
        for kind in KINDS:
            self.assertEqual(read_root(kind, "x"), x_of(kind))
            self.assertEqual(read_root(kind, "y"), Y)
            self.assertEqual(read_root(kind, "0"), ZERO)

    def test_what_is_nought_for_the_root(self):
        for kind in KINDS:
            n, a, b = kind
            text = f"(y^{n} - (({show_number(a)})*x + ({show_number(b)})))"
            self.assertEqual(read_root(kind, text), ZERO)
            for ahead in ("1", "x", "(y - 3)", "0", text):
                self.refused(kind, ahead + "/" + text, Nought)
            self.refused(kind, f"x + 1/({text}*y)", Nought)
            self.assertEqual(read_root(kind, f"1/({text} + 2)"), f_number(HALF))
            self.assertEqual(read_root(kind, text + "^0"), f_number(ONE))

    def test_blanks(self):
        kind = (3, (2, 1), (-3, 1))
        for text in ("x*y+1/y^2", " x * y + 1 / y ^ 2 ", "x   *y  +1/y^   2", "(x * y) + ( 1/( y^2 ))"):
            self.assertEqual(read_root(kind, text), read_root(kind, "x*y+1/y^2"))

    def test_brackets(self):
        for kind in FEW:
            self.assertEqual(read_root(kind, "(" * 20 + "x/y" + ")" * 20), read_root(kind, "x/y"))
            self.refused(kind, "(" * 21 + "x/y" + ")" * 21, NoText)

    def test_no_texts(self):
        for kind in FEW:
            for text in ("", " ", "z", "a", "t", "X", "Y", "x y", "xy", "2x", "y2", "2 y", "y^", "y^-1", "y^41", "y^x",
                         "(y", "y)", "()", "+y", "x+", "x**2", "1 2", "01", "y^02", "1234567890123", "x=y", "x.y",
                         "x,y", "x + z", "n"):
                self.refused(kind, text, NoText)

    def test_no_text_goes_ahead(self):
        for text in ("1/0 + z", "1/(x - x) +", "(1/(y - y)", "1/0 x"):
            self.refused((2, ONE, ONE), text, NoText)
        for text in ("1/0", "x/(y - y)", "y/(x - x)", "1/(1/x - 1/x)"):
            self.refused((2, ONE, ONE), text, Nought)


class Parts(unittest.TestCase):
    def holds(self, kind, g):
        """The parts of g, after all that is told of them has been looked at."""
        told = parted(kind, g)
        self.assertIs(type(told), tuple)
        self.assertEqual(len(told), kind[0])
        self.assertTrue(all(is_fraction(part) for part in told), told)
        self.assertEqual(joined(kind, told), g)
        self.assertEqual(parted(kind, g), told)
        for c in PLACES:
            worths = [worth_at(part, x_at(kind, c)) for part in told]
            if None not in worths:
                self.assertEqual(sum(worth * c ** i for i, worth in enumerate(worths)), worth_at(g, c))
        return told

    def test_ordinary_ones(self):
        for kind in KINDS:
            n = kind[0]
            none = (ZERO,) * n
            self.assertEqual(self.holds(kind, ZERO), none)
            self.assertEqual(self.holds(kind, f_number((-2, 3))), (f_number((-2, 3)),) + none[1:])
            self.assertEqual(self.holds(kind, x_of(kind)), (Y,) + none[1:])
            self.assertEqual(self.holds(kind, Y), (ZERO, f_number(ONE)) + none[2:])
            self.assertEqual(self.holds(kind, to_the(n)), (under(kind),) + none[1:])
            self.assertEqual(self.holds(kind, (UNIT, X)), none[1:] + (f_over(f_number(ONE), under(kind)),))

    def test_a_known_bottom(self):
        # 1 / (y - 1) is (y + 1) / (x - 1), (y y + y + 1) / (x - 1) ..
        for n in (2, 3, 4):
            told = self.holds((n, ONE, NOUGHT), (UNIT, line(1)))
            self.assertEqual(told, ((UNIT, line(1)),) * n)

    def test_drawn_fractions(self):
        chance = Random(161)
        for kind in KINDS:
            for top, bottom in ((0, 1), (3, 0), (2, 2), (1, 3), (5, 4), (-1, 0)):
                self.holds(kind, drawn_fraction(chance, top, bottom, 1))
            self.holds(kind, drawn_fraction(chance, 3, 3, 12))

    def test_bottoms_of_powers_of_y(self):
        chance = Random(162)
        for kind in FEW:
            for factors in ([X], [X, X], [X] * 7, [X, line(2)], [CIRCLE, CIRCLE], [line(1), line(-1), CIRCLE],
                            [SQUARE, X], [line(1), whole([1, 1, 1]), whole([1, 1, 1])],
                            [whole([3, 0, 0, 0, 1]), line(2)], [whole([5, 0, 0, 1]), whole([5, 0, 0, 1])],
                            [whole([1] + [0] * 11 + [1]), line(4, 3)]):
                self.holds(kind, fraction(drawn_poly(chance, 2, 1), product(factors)))

    def test_bottoms_in_x(self):
        chance = Random(163)
        for kind in FEW:
            for top in range(3):
                f = drawn_fraction(chance, top, 2, 1)
                parts = (f,) + (ZERO,) * (kind[0] - 1)
                self.assertEqual(self.holds(kind, joined(kind, parts)), parts)

    def test_drawn_parts(self):
        chance = Random(164)
        for kind in KINDS:
            for figures in (1, 12):
                degrees = [(chance.randrange(-1, 3), chance.randrange(3)) for i in range(kind[0])]
                parts = [drawn_fraction(chance, top, bottom, figures) for top, bottom in degrees]
                g = joined(kind, tuple(parts))
                self.assertTrue(is_fraction(g))
                self.assertEqual(self.holds(kind, g), tuple(parts))

    def test_noughts_among_the_parts(self):
        chance = Random(165)
        for kind in FEW:
            for chosen in range(2 ** kind[0]):
                parts = tuple(drawn_fraction(chance, 1, 2, 1) if chosen >> i & 1 else ZERO for i in range(kind[0]))
                self.assertEqual(self.holds(kind, joined(kind, parts)), parts)

    def test_times_y(self):
        chance = Random(166)
        for kind in KINDS:
            for top, bottom in ((3, 0), (2, 3), (4, 1)):
                g = drawn_fraction(chance, top, bottom, 1)
                told = parted(kind, g)
                moved = (f_times(told[-1], under(kind)),) + told[:-1]
                self.assertEqual(parted(kind, f_times(g, Y)), moved)

    def test_sums(self):
        chance = Random(167)
        for kind in FEW:
            one, other = drawn_fraction(chance, 2, 2, 1), drawn_fraction(chance, 3, 3, 1)
            sums = tuple(f_plus(left, right) for left, right in zip(parted(kind, one), parted(kind, other)))
            self.assertEqual(parted(kind, f_plus(one, other)), sums)

    def test_degree_eight_with_twelve_figures(self):
        chance = Random(168)
        for n in (2, 3, 4):
            kind = (n, drawn_number(chance, 12), drawn_number(chance, 12))
            self.holds(kind, drawn_fraction(chance, 8, 8, 12))
        parts = tuple(drawn_fraction(chance, 8, 8, 12) for i in range(3))
        kind = (3, drawn_number(chance, 12), drawn_number(chance, 12))
        self.assertEqual(parted(kind, joined(kind, parts)), parts)


class Slopes(unittest.TestCase):
    def test_ordinary_ones(self):
        for kind in KINDS:
            n, a, b = kind
            self.assertEqual(root_slope(kind, (x_of(kind), ())), f_number(ONE))
            self.assertEqual(root_slope(kind, (to_the(n), ())), f_number(a))
            self.assertEqual(root_slope(kind, (Y, ())), f_over(f_number(lowest(a[0], a[1] * n)), to_the(n - 1)))
            self.assertEqual(root_slope(kind, (f_number((7, 3)), ())), ZERO)
            # n log y is log (a x + b).
            self.assertEqual(root_slope(kind, (ZERO, (((n, 1), X),))), f_over(f_number(a), to_the(n)))

    def test_across_with_form_slope(self):
        chance = Random(171)
        for kind in KINDS:
            for many in range(7):
                form = drawn_form(chance, many, 1)
                told = root_slope(kind, form)
                self.assertTrue(is_fraction(told))
                self.assertEqual(f_times(told, by_y(kind)), form_slope(form))
                self.assertEqual(root_slope(kind, form), told)

    def test_six_lines_of_twelve_figures(self):
        chance = Random(172)
        for kind in FEW:
            form = drawn_form(chance, 6, 12)
            self.assertEqual(f_times(root_slope(kind, form), by_y(kind)), form_slope(form))

    def test_sums_and_so_many_times(self):
        chance = Random(173)
        for kind in KINDS:
            one, other = drawn_form(chance, 2, 1), drawn_form(chance, 3, 1)
            slopes = f_plus(root_slope(kind, one), root_slope(kind, other))
            self.assertEqual(root_slope(kind, form_plus(one, other)), slopes)
            for c in ((-1, 1), (2, 3), NOUGHT, (10 ** 12 - 2, 7)):
                scaled = f_times(f_number(c), root_slope(kind, one))
                self.assertEqual(root_slope(kind, form_scaled(one, c)), scaled)

    def test_products(self):
        chance = Random(174)
        for kind in FEW:
            F, G = drawn_fraction(chance, 2, 1, 1), drawn_fraction(chance, 1, 2, 1)
            by_parts = f_plus(f_times(F, root_slope(kind, (G, ()))), f_times(G, root_slope(kind, (F, ()))))
            self.assertEqual(root_slope(kind, (f_times(F, G), ())), by_parts)

    def test_forms_in_x_alone(self):
        chance = Random(175)
        for kind in FEW:
            for many in range(4):
                form = drawn_form(chance, many, 1)
                rest = (ZERO,) * (kind[0] - 1)
                rows = [(c, joined(kind, (f_poly(v),) + rest)[0]) for c, v in form[1]]
                in_y = settled(joined(kind, (form[0],) + rest), rows)[0]
                self.assertEqual(root_slope(kind, in_y), joined(kind, (form_slope(form),) + rest))


class Back(unittest.TestCase):
    def told(self, kind, form):
        g = root_slope(kind, form)
        word, found = root_back(kind, g)
        self.assertEqual(word, "told")
        self.assertTrue(is_form(found))
        self.assertEqual(found[1], form[1])
        apart = f_minus(found[0], form[0])
        self.assertLess(degree(apart[0]), 1)
        self.assertEqual(apart[1], UNIT)
        self.assertEqual(root_slope(kind, found), g)
        self.assertEqual(root_back(kind, g), (word, found))

    def none(self, kind, g):
        told = root_back(kind, g)
        self.assertEqual(told[0], "none")
        self.assertEqual(len(told), 2)
        self.assertIs(root_shows(kind, g, told[1]), True)
        self.assertIs(shows_none(f_times(g, by_y(kind)), told[1]), True)
        self.assertEqual(root_back(kind, g), told)

    def test_ordinary_ones(self):
        for kind in KINDS:
            self.told(kind, (ZERO, ()))
            self.told(kind, (Y, ()))
            self.told(kind, (ZERO, ((ONE, X),)))
            self.told(kind, (x_of(kind), ((HALF, line(1)),)))

    def test_known_ones(self):
        kind = (2, ONE, NOUGHT)
        # 1 / y has 2 y; 1 / (y + 1) has 2 y - 2 log|y + 1|; 1 / (x + 1) / y has none, 1 / (x - 1) / y has one.
        self.assertEqual(root_back(kind, read_root(kind, "1/y")), ("told", ((whole([0, 2]), UNIT), ())))
        self.assertEqual(root_back(kind, read_root(kind, "1/(y + 1)"))[1][1], (((-2, 1), line(-1)),))
        self.none(kind, read_root(kind, "1/(x + 1)/y"))
        self.assertEqual(root_back(kind, read_root(kind, "1/(x - 1)/y"))[1][1], (((-1, 1), line(-1)), (ONE, line(1))))

    def test_drawn_forms(self):
        chance = Random(181)
        for kind in KINDS:
            for many in range(4):
                self.told(kind, drawn_form(chance, many, 1))
        for kind in FEW:
            self.told(kind, drawn_form(chance, 6, 2))
            self.told(kind, drawn_form(chance, 3, 12))

    def test_with_a_wild_part_more(self):
        chance = Random(182)
        for kind in KINDS:
            for many in (0, 2):
                g = f_plus(form_slope(drawn_form(chance, many, 1)), wild(chance))
                self.none(kind, f_over(g, by_y(kind)))
            self.none(kind, f_over(wild(chance), by_y(kind)))

    def test_a_wild_part_beside_the_slope(self):
        # (p y + q) / (y y + s y + t) itself, by x: it is told or not, but one of both.
        chance = Random(183)
        words = []
        for kind in KINDS:
            g = f_plus(root_slope(kind, drawn_form(chance, 2, 1)), wild(chance))
            words.append(root_back(kind, g)[0])
            if words[-1] == "told":
                self.assertEqual(root_slope(kind, root_back(kind, g)[1]), g)
            else:
                self.none(kind, g)
        self.assertIn("none", words)

    def test_fractions_in_x_alone(self):
        chance = Random(184)
        for kind in KINDS:
            rest = (ZERO,) * (kind[0] - 1)
            forms = [form_slope(drawn_form(chance, many, 1)) for many in range(3)]
            without = [f_plus(forms[1], wild(chance)), (UNIT, CIRCLE), (UNIT, SQUARE)]
            for f in forms + without + [drawn_fraction(chance, 1, 2, 1)]:
                g = joined(kind, (f,) + rest)
                word = root_back(kind, g)[0]
                self.assertEqual(word, back(f)[0])
                if word == "none":
                    self.none(kind, g)
                else:
                    self.assertEqual(root_slope(kind, root_back(kind, g)[1]), g)

    def test_degree_eight_with_twelve_figures(self):
        chance = Random(185)
        self.none((3, drawn_number(chance, 12), drawn_number(chance, 12)), drawn_fraction(chance, 8, 8, 12))


class Shows(unittest.TestCase):
    def papers(self):
        chance = Random(191)
        for kind in FEW:
            for many in (0, 1, 2):
                g = f_over(f_plus(form_slope(drawn_form(chance, many, 1)), wild(chance)), by_y(kind))
                yield kind, g, root_back(kind, g)[1]

    def test_one_part_exchanged(self):
        for kind, g, paper in self.papers():
            self.assertIs(root_shows(kind, g, paper), True)
            R, A, D, W, m = paper
            spoilt = [(f_plus(R, Y),) + paper[1:], (f_plus(R, (UNIT, line(9))),) + paper[1:]]
            for place in range(1, 5):
                for other in ((), UNIT, X, p_plus(paper[place], UNIT), p_scaled(paper[place], (2, 1))):
                    spoilt.append(paper[:place] + (other,) + paper[place + 1:])
            right = [paper, paper[:4] + (p_scaled(m, (2, 1)),)]
            for other in spoilt:
                told = root_shows(kind, g, other)
                self.assertIs(told, shows_none(f_times(g, by_y(kind)), other))
                self.assertIs(told, other in right, other)

    def test_what_stays_right(self):
        for kind, g, (R, A, D, W, m) in self.papers():
            self.assertIs(root_shows(kind, g, (f_plus(R, f_number((5, 3))), A, D, W, m)), True)
            self.assertIs(root_shows(kind, g, (R, A, D, W, p_times(m, CIRCLE))), True)
            self.assertIs(root_shows(kind, g, (R, A, D, W, p_times(m, X))), False)

    def test_all_noughts(self):
        for kind, g, paper in self.papers():
            self.assertIs(root_shows(kind, g, (ZERO, (), (), (), ())), False)

    def test_another_g_or_kind(self):
        for kind, g, paper in self.papers():
            n, a, b = kind
            self.assertIs(root_shows(kind, f_plus(g, f_number(ONE)), paper), False)
            self.assertIs(root_shows(kind, f_times(g, f_number((2, 1))), paper), False)
            self.assertIs(root_shows((n, lowest(2 * a[0], a[1]), b), g, paper), False)
            self.assertIs(root_shows((5 - n if n < 4 else 2, a, b), g, paper), False)
            # On b the slope of x has no bearing.
            self.assertIs(root_shows((n, a, (9, 2)), g, paper), True)

    def test_by_the_slope_of_x(self):
        # 1 / (y y + 1) by y has no form; times y, as 2 y / (y y + 1) by x for n = 2, it has one.
        kind = (2, ONE, NOUGHT)
        paper = (ZERO, UNIT, CIRCLE, CIRCLE, whole([1, 0, 4]))
        self.assertIs(root_shows(kind, fraction(((1, 2),), p_times(X, CIRCLE)), paper), True)
        self.assertIs(root_shows(kind, (UNIT, CIRCLE), paper), False)
        self.assertEqual(root_back(kind, (UNIT, CIRCLE)), ("told", (ZERO, ((ONE, CIRCLE),))))

    def test_never_where_there_is_a_form(self):
        chance = Random(192)
        for kind in FEW:
            for many in (0, 1, 3):
                form = drawn_form(chance, many, 1)
                g = root_slope(kind, form)
                for other in self.papers():
                    self.assertIs(root_shows(kind, g, other[2]), False)
                bottom = product([v for c, v in form[1]] + [CIRCLE])
                for W in (bottom, CIRCLE, SQUARE):
                    for m in (CIRCLE, SQUARE, whole([1, 0, 4])):
                        f = form_slope((ZERO, form[1]))
                        A = p_times(f[0], fraction(bottom, f[1])[0])
                        self.assertIs(root_shows(kind, g, (form[0], A, bottom, W, m)), False)


if __name__ == "__main__":
    unittest.main()
