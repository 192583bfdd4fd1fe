import re
import unittest
from fractions import Fraction
from random import Random

from backslope.errors import NoText, Nought
from backslope.fractions import f_at, f_over, f_plus, fraction
from backslope.polys import p_minus, p_plus, p_power, p_times
from backslope.texts import read, read_x, show, show_number, show_poly
from samples import (
    NOUGHT, ONE, UNIT, X, ZERO, drawn_number, drawn_poly, is_fraction, line, lowest, numbers, polys, whole)


def pure(*wholes):
    """The fraction of a polynomial with these whole numbers."""
    return (whole(wholes), UNIT)


def with_letters(count=3):
    """Letters that stand for drawn fractions."""
    chance = Random(101)
    fractions = [fraction(drawn_poly(chance, 1, 1), drawn_poly(chance, 1, 1)) for time in range(count)]
    return list(zip("xab", fractions))


def worth_by_python(text, worths):
    """What Python itself makes of the text, with a number for each letter."""
    told = re.sub(r"\d+", lambda found: f"Fraction({found.group()})", text.replace("^", " ** "))
    told = re.sub(r"\*\* *Fraction\((\d+)\)", r"** \1", told)
    return eval(told, {"Fraction": Fraction}, worths)


def drawn_text(chance, depth, letters):
    """A text of the told kind, with blanks here and there."""
    terms = []
    for term in range(chance.randrange(1, 4)):
        factors = [drawn_factor(chance, depth, letters) for time in range(chance.randrange(1, 3))]
        joints = [chance.choice("*/") for factor in factors[1:]]
        terms.append(spaced(chance, factors, joints))
    return spaced(chance, terms, [chance.choice("+-") for term in terms[1:]])


def spaced(chance, pieces, joints):
    text = pieces[0]
    for joint, piece in zip(joints, pieces[1:]):
        text += " " * chance.randrange(3) + joint + " " * chance.randrange(3) + piece
    return text


def drawn_factor(chance, depth, letters):
    kind = chance.randrange(8)
    if kind == 0:
        return "-" + " " * chance.randrange(2) + drawn_factor(chance, depth, letters)
    if depth > 0 and kind < 4:
        atom = "(" + drawn_text(chance, depth - 1, letters) + " " * chance.randrange(2) + ")"
    elif kind < 6:
        atom = chance.choice(letters)
    else:
        atom = str(chance.randrange(1, 10 ** chance.randrange(1, 6)))
    return atom + chance.choice(["", "", "^0", "^1", "^2", " ^ 3"])


class Case(unittest.TestCase):
    def same(self, told, asked):
        self.assertTrue(is_fraction(told), told)
        self.assertEqual(told, asked)

    def reads(self, text, asked):
        self.same(read_x(text), asked)

    def refused(self, texts, letters=(("x", (X, UNIT)),)):
        for text in texts:
            with self.assertRaises(NoText, msg=text) as caught:
                read(text, list(letters))
            self.assertIs(type(caught.exception), NoText)


class Right(Case):
    def test_atoms(self):
        self.reads("x", pure(0, 1))
        self.reads("0", ZERO)
        self.reads("7", pure(7))
        self.reads("10", pure(10))
        self.reads("(x)", pure(0, 1))
        self.reads("((12))", pure(12))

    def test_twelve_figures(self):
        self.reads("999999999999", pure(10 ** 12 - 1))
        self.reads("100000000000*x", pure(0, 10 ** 11))
        self.reads("x/999999999998", fraction(X, whole([999999999998])))
        self.reads("123456789012^2", pure(123456789012 ** 2))

    def test_sums_and_differences_from_left_to_right(self):
        self.reads("x + 1", pure(1, 1))
        self.reads("1-2-3", pure(-4))
        self.reads("1-2+3", pure(2))
        self.reads("1-(2+3)", pure(-4))
        self.reads("x-x", ZERO)
        self.reads("2 - x - x", pure(2, -2))

    def test_products_and_quotients_from_left_to_right(self):
        self.reads("2*x", pure(0, 2))
        self.reads("8/4/2", pure(1))
        self.reads("8/(4/2)", pure(4))
        self.reads("8/4*2", pure(4))
        self.reads("2*8/4", pure(4))
        self.reads("1/2*x", (((0, 1), (1, 2)), UNIT))
        self.reads("1/x*x", pure(1))
        self.reads("1/(x*x)", (UNIT, whole([0, 0, 1])))
        self.reads("x/x", pure(1))
        self.reads("0/x", ZERO)
        self.reads("0*x", ZERO)

    def test_products_go_ahead_of_sums(self):
        self.reads("1+2*x", pure(1, 2))
        self.reads("(1+2)*x", pure(0, 3))
        self.reads("x*x-1/2", (((-1, 2), NOUGHT, ONE), UNIT))
        self.reads("6-4/2", pure(4))

    def test_minus_ahead_of_a_factor(self):
        self.reads("-x", pure(0, -1))
        self.reads("--x", pure(0, 1))
        self.reads("---x", pure(0, -1))
        self.reads("- - x", pure(0, 1))
        self.reads("2*-x", pure(0, -2))
        self.reads("2/-x", (whole([-2]), X))
        self.reads("2--x", pure(2, 1))
        self.reads("2+-x", pure(2, -1))
        self.reads("2---x", pure(2, -1))
        self.reads("-2*-3", pure(6))
        self.reads("-(x+1)", pure(-1, -1))
        self.reads("-0", ZERO)
        self.reads("-x-1", pure(-1, -1))

    def test_powers_go_ahead_of_a_minus(self):
        self.reads("-x^2", pure(0, 0, -1))
        self.reads("(-x)^2", pure(0, 0, 1))
        self.reads("--x^2", pure(0, 0, 1))
        self.reads("-2^2", pure(-4))
        self.reads("-x^0", pure(-1))
        self.reads("2*-x^2", pure(0, 0, -2))
        self.reads("1 - 3^2*x^2", pure(1, 0, -9))

    def test_many_minuses(self):
        self.reads("-" * 1998 + "x", pure(0, 1))
        self.reads("-" * 1999 + "x", pure(0, -1))

    def test_powers(self):
        for n in range(41):
            self.reads(f"x^{n}", (p_power(X, n), UNIT))
            self.reads(f"(x + 1) ^ {n}", (p_power(whole([1, 1]), n), UNIT))
            self.reads(f"(1/(x - 1))^{n}", (UNIT, p_power(line(1), n)))
            self.reads(f"(-2/3)^{n}", (((((-2) ** n), 3 ** n),), UNIT))
        self.reads("(x^2)^3", pure(0, 0, 0, 0, 0, 0, 1))
        self.reads("((x-1)/x)^2", (whole([1, -2, 1]), whole([0, 0, 1])))
        self.reads("(2*x)^3", pure(0, 0, 0, 8))

    def test_powers_of_nought(self):
        self.reads("0^0", pure(1))
        self.reads("0 ^ 0", pure(1))
        self.reads("(x-x)^0", pure(1))
        self.reads("0^1", ZERO)
        self.reads("(x - x)^40", ZERO)
        self.reads("1/0^0", pure(1))
        self.reads("-0^0", pure(-1))

    def test_blanks_between_signs(self):
        self.reads("  x  ", pure(0, 1))
        self.reads(" ( 2 * x ^ 2 - 1 ) / ( x ) ", (whole([-1, 0, 2]), X))
        self.reads("x^   2", pure(0, 0, 1))
        self.reads("x  ^2", pure(0, 0, 1))
        self.reads("-  12  *  x", pure(0, -12))

    def test_what_falls_away(self):
        self.reads("(x^2 - 1)/(x + 1)", pure(-1, 1))
        self.reads("1/x + 1/(x*(x-1))", (UNIT, line(1)))
        self.reads("(2*x + 2)/(4*x)", (((1, 2), (1, 2)), X))
        self.reads("1/(1/x)", pure(0, 1))
        self.reads("1/(2 - x)", (whole([-1]), line(2)))

    def test_brackets(self):
        self.reads("(" * 20 + "x" + ")" * 20, pure(0, 1))
        self.reads("(1+" * 20 + "x" + ")" * 20, pure(20, 1))
        self.reads("-(" * 20 + "x" + ")" * 20, pure(0, 1))
        self.reads("+".join(["(x)"] * 30), pure(0, 30))
        self.reads("((x)+(1))*((x)-(1))" + "+(1)" * 21, pure(20, 0, 1))
        self.reads("+".join(["(" * 20 + "x" + ")" * 20] * 3), pure(0, 3))

    def test_thirty_terms(self):
        self.reads(" + ".join(f"{n}*x^{n}" for n in range(30)), pure(*range(30)))
        asked = ZERO
        for n in range(30):
            asked = f_plus(asked, (whole([(-1) ** n]), line(n)))
        self.reads("".join(f" {'-' if n % 2 else '+'} 1/(x - {n})" for n in range(30))[3:], asked)
        self.reads("-".join(["x"] * 30), pure(0, -28))

    def test_longest_texts(self):
        self.reads("x" + "+x" * 999, pure(0, 1000))
        self.reads("1" + "*1" * 999, pure(1))
        self.reads("x" + " " * 1999, pure(0, 1))

    def test_degree_100(self):
        self.reads("(x^2 + x - 1)^40*(x - 3)^20/(x^3 + 2)^33", fraction(
            p_times(p_power(whole([-1, 1, 1]), 40), p_power(line(3), 20)), p_power(whole([2, 0, 0, 1]), 33)))


class Letters(Case):
    def test_letters_stand_for_their_fractions(self):
        letters = with_letters()
        for letter, F in letters:
            self.same(read(letter, letters), F)
            self.same(read(f"{letter}-{letter}", letters), ZERO)
            self.same(read(f"{letter}^2", letters), (p_times(F[0], F[0]), p_times(F[1], F[1])))
        F, G, H = [pair[1] for pair in letters]
        self.same(read("x + a*b", letters), f_plus(F, fraction(p_times(G[0], H[0]), p_times(G[1], H[1]))))
        self.same(read("x/a", letters), f_over(F, G))

    def test_x_is_a_letter_as_others(self):
        self.same(read("x + y", [("x", pure(5)), ("y", pure(0, 1))]), pure(5, 1))
        self.same(read("z", [("z", ZERO)]), ZERO)

    def test_without_letters(self):
        self.same(read("(3 - 5)*2", []), pure(-4))
        self.refused(["x", "1 + x"], [])

    def test_all_small_letters(self):
        for sign in "abcdefghijklmnopqrstuvwxyz":
            self.same(read(f"2*{sign}", [(sign, pure(0, 1))]), pure(0, 2))

    def test_letters_stay(self):
        letters = with_letters()
        kept = list(letters)
        read("x*a - b", letters)
        self.assertEqual(letters, kept)
        for text in ("x*", "1/(x-x)"):
            with self.assertRaises((NoText, Nought)):
                read(text, letters)
            self.assertEqual(letters, kept)

    def test_asked_again(self):
        letters = with_letters()
        self.assertEqual(read("x/a - b^2", letters), read("x/a - b^2", letters))

    def test_drawn_texts(self):
        chance = Random(102)
        letters = with_letters()
        for time in range(150):
            text = drawn_text(chance, 2, "xab")
            try:
                told = read(text, letters)
            except Nought:
                continue
            self.assertTrue(is_fraction(told), text)
            points = 0
            for top in range(2 * (len(told[0]) + len(told[1])) + 2):
                c = (3 * top + 1, 7)
                worths = {letter: Fraction(*f_at(F, c)) for letter, F in letters}
                try:
                    asked = worth_by_python(text, worths)
                except ZeroDivisionError:
                    continue
                self.assertEqual(f_at(told, c), (asked.numerator, asked.denominator), text)
                points += 1
            self.assertGreater(points, len(told[0]) + len(told[1]))


class Wrong(Case):
    def test_nothing(self):
        self.refused(["", " ", "      ", "()", "( )", "x*()"])

    def test_signs_of_no_expression(self):
        self.refused(["x$", "x=1", "x.5", "1.5", "x,1", "[x]", "{x}", "x!", "X", "x_1", "x;", "#", "x&1", "~x", "'x'"])
        self.refused(["x**2", "x//2", "x%2", "x\t+ 1", "x\n", "\\", '"', "?", "@x", "x<1", "x>1", "x|1", "`", ":"])
        self.refused([sign for sign in map(chr, range(32, 127)) if sign not in "0123456789x"])
        self.refused(["x+" + sign for sign in map(chr, range(32, 127)) if sign not in "0123456789x"])

    def test_letters_that_are_not_told(self):
        self.refused(["y", "x + y", "e", "log(x)", "2*a", "1/b"])
        self.refused(["x", "a*x", "A", "B"], [("a", pure(1)), ("b", pure(2))])

    def test_side_by_side(self):
        self.refused(["x x", "xx", "2x", "x2", "2 x", "2(x)", "(x)2", "(x)(x)", "x(1)", "1 2", "x^2x", "x^2 3", "x^2(3)"])
        self.refused(["1 + 2 3", "(1 2)", "x (", "12 345", "- 1 2"])

    def test_something_wanted_behind_or_ahead(self):
        self.refused(["x+", "x-", "x*", "x/", "x^", "-", "--", "+x", "*x", "/x", "^2", "+", "*", "/", "^"])
        self.refused(["x++1", "x+*1", "x*/1", "x/*1", "x**1", "x*+1", "x^+1", "x*^2", "-+x", "-*x", "-/x", "-^2"])
        self.refused(["(x+)", "(*x)", "(+1)", "x*()", "(-)", "x+(", "x ^ ", "2*(x-)*3"])

    def test_brackets(self):
        self.refused(["(x", "x)", "((x)", "(x))", ")x(", ")(", "(", ")", "(x+1", "x+1)", "((((x)))", "(x))+(1", "(x)+1)"])

    def test_numbers(self):
        self.refused(["01", "00", "007", "x+02", "0123456789012", "1000000000000", "9999999999999", "0" * 12, "0" * 13])
        self.refused(["1 0", "1 000", "x + 10 0", "1" * 2000])

    def test_powers(self):
        self.refused(["x^41", "x^42", "x^99", "x^100", "x^400", "2^41", "x^1000000000000"])
        self.refused(["x^x", "x^(2)", "2^(1+1)", "x^-1", "x^-0", "x^- 2", "x^--2", "(x)^x"])
        self.refused(["x^00", "x^01", "x^02", "x^040", "x^000"])
        self.refused(["x^2^3", "x^2^1", "2^2^2", "x^0^0", "x ^ 2 ^ 3", "-x^2^2"])
        self.refused(["x^1 0", "x^4 0"])

    def test_too_many_brackets(self):
        for many in (21, 22, 100, 999):
            self.refused(["(" * many + "x" + ")" * many, "1+(" * min(many, 600) + "x" + ")" * min(many, 600)])
        self.refused(["(x)+" + "(" * 21 + "x" + ")" * 21, "(" * 21, "((x)" + "+(" * 20 + "x" + ")" * 21])

    def test_ahead_of_dividing_by_nought(self):
        self.refused(["1/0 +", "1/0)", "(1/0", "1/0 x", "1/(x-x)+y", "0/0^41", "1/0 + 01", "1/0/", "y/0", "1/0 1"])
        self.refused(["1/0+" + "(" * 21 + "x" + ")" * 21, "+1/0", "1/0 + 1000000000000", "1/0$"])

    def test_nothing_is_reckoned_ahead_of_it(self):
        self.refused(["(((((((9^40)^40)^40)^40)^40)^40)^40)^40 +", "(((((x + 1)^40)^40)^40)^40)^40)"])


class ByNought(Case):
    def nought(self, texts, letters=(("x", (X, UNIT)),)):
        for text in texts:
            with self.assertRaises(Nought, msg=text) as caught:
                read(text, list(letters))
            self.assertIs(type(caught.exception), Nought)

    def test_ordinary_ones(self):
        self.nought(["1/0", "0/0", "x/0", "1/(x-x)", "1/(2-2)", "1/0^1", "1/0*0", "0*(1/0)", "(1/0)^0", "1/-0", "1/(0*x)"])
        self.nought(["x + 1/(x^2 - x*x)", "1/(1/x - 1/x)", "1/((x+1)^2 - x^2 - 2*x - 1)", "1/0 - 1/0", "-1/0", "1/(0/x)"])
        self.nought(["(" * 20 + "1/0" + ")" * 20, " 1 / 0 ", "x/(x/(x-x))"])

    def test_read_x(self):
        with self.assertRaises(Nought):
            read_x("1/(x - x)")
        with self.assertRaises(NoText):
            read_x("1/(y - y)")
        with self.assertRaises(NoText):
            read_x("")

    def test_by_a_letter(self):
        letters = [("x", pure(0, 1)), ("a", ZERO), ("b", pure(2))]
        self.nought(["1/a", "x/a", "b/(a*x)", "1/(b - 2)", "1/a^2", "a/a", "1/(b*a)"], letters)
        self.same(read("1/a^0", letters), pure(1))
        self.same(read("a/b", letters), ZERO)


class Shown(Case):
    def test_numbers(self):
        for c, text in (((3, 1), "3"), ((-1, 2), "-1/2"), (NOUGHT, "0"), ((-7, 1), "-7"), ((22, 7), "22/7"), (ONE, "1")):
            self.assertEqual(show_number(c), text)
        for c in numbers():
            told = Fraction(show_number(c))
            self.assertEqual((told.numerator, told.denominator), c)
            self.assertEqual("/" in show_number(c), c[1] != 1)
            self.assertRegex(show_number(c), r"\A-?\d+(/\d+)?\Z")

    def test_long_numbers(self):
        for many in (598, 599, 600, 601, 602, 1199, 1200, 1201, 4299, 4300, 4301, 9000):
            self.assertEqual(show_number((10 ** many, 1)), "1" + "0" * many)
            self.assertEqual(show_number((-10 ** many, 1)), "-1" + "0" * many)
            self.assertEqual(show_number((10 ** many - 1, 1)), "9" * many)
            self.assertEqual(show_number((1, 10 ** many + 7)), "1/1" + "0" * (many - 1) + "7")
        self.assertEqual(show_poly(((-1, 10 ** 5000), ONE)), "x - 1/1" + "0" * 5000)

    def test_polynomials(self):
        half = (1, 2)
        for P, text in (
                ((), "0"), (whole([5]), "5"), (whole([-5]), "-5"), (((-1, 2),), "-1/2"), (UNIT, "1"), (whole([-1]), "-1"),
                (X, "x"), (whole([0, -1]), "-x"), (whole([0, 3]), "3*x"), ((NOUGHT, half), "1/2*x"),
                (whole([1, 1]), "x + 1"), (whole([-1, 1]), "x - 1"), (whole([1, -1]), "-x + 1"),
                (((-1, 1), ONE, (-3, 2)), "-3/2*x^2 + x - 1"), (whole([0, 0, 1]), "x^2"), (whole([0, 0, -1]), "-x^2"),
                (whole([-7, 0, 0, 2]), "2*x^3 - 7"), (whole([0, 1, 0, -1]), "-x^3 + x"), (whole([0, -1, 0, 1]), "x^3 - x"),
                ((half, (-1, 3), (5, 4)), "5/4*x^2 - 1/3*x + 1/2"), (p_power(X, 40), "x^40"),
                (whole([10, -10, 10, -10]), "-10*x^3 + 10*x^2 - 10*x + 10"), (whole([11, 0, 1, 1, 1]), "x^4 + x^3 + x^2 + 11")):
            self.assertEqual(show_poly(P), text)

    def test_high_degrees(self):
        self.assertEqual(show_poly(p_minus(p_power(X, 12), p_power(X, 10))), "x^12 - x^10")
        self.assertEqual(show_poly((NOUGHT,) * 100 + ((-3, 4),)), "-3/4*x^100")

    def test_fractions(self):
        for F, text in (
                (ZERO, "0"), (pure(3), "3"), (pure(-1, 1), "x - 1"), ((UNIT, X), "(1)/(x)"),
                ((whole([-1]), whole([1, 0, 1])), "(-1)/(x^2 + 1)"),
                ((((1, 2), (-1, 2)), ((1, 3), ONE)), "(-1/2*x + 1/2)/(x + 1/3)")):
            self.assertEqual(show(F), text)

    def test_read_again(self):
        for P in polys():
            if all(abs(top) < 10 ** 12 and bottom < 10 ** 12 for top, bottom in P):
                self.reads(show((P, UNIT)), (P, UNIT))
        chance = Random(103)
        for figures in (1, 2, 12):
            for top, bottom in ((0, 0), (0, 1), (3, 0), (2, 2), (8, 8), (-1, 0)):
                for time in range(4):
                    P, Q = drawn_poly(chance, top, figures), drawn_poly(chance, bottom, 1)[:-1] + (ONE,)
                    F = fraction(P, Q)
                    if all(max(abs(part), size) < 10 ** 12 for side in F for part, size in side):
                        self.reads(show(F), F)

    def test_read_again_at_the_bounds(self):
        most = 10 ** 12 - 1
        ends = (lowest(most, most - 1), lowest(-most, 1), lowest(-1, most), lowest(1 - most, most))
        for c in ends:
            for low in ends:
                F = ((low,) + (NOUGHT,) * 39 + (c,), UNIT)
                self.reads(show(F), F)
                F = ((low, NOUGHT, c), (ends[0],) + (NOUGHT,) * 39 + (ONE,))
                self.reads(show(F), F)
        self.reads(show((p_plus(p_power(X, 40), X), p_power(line(1), 2))), (p_plus(p_power(X, 40), X), p_power(line(1), 2)))

    def test_drawn_noughts_between(self):
        chance = Random(104)
        for time in range(40):
            row = [drawn_number(chance, 2) if chance.randrange(2) else NOUGHT for place in range(10)]
            P = tuple(row) + (chance.choice([ONE, (-1, 1), (2, 3)]),)
            text = show_poly(P)
            self.reads(text, (P, UNIT))
            self.assertEqual(text.count(" + ") + text.count(" - "), len([c for c in P if c != NOUGHT]) - 1)
            self.assertNotRegex(text, r"(?<![\d/])1\*x")


if __name__ == "__main__":
    unittest.main()
