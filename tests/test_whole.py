"""What is promised over the whole program: kinds, what is handed in stays, what is asked again, refusals."""

import importlib
import unittest
from copy import deepcopy
from fractions import Fraction

from backslope.alike import alike
from backslope.areas import area, holes
from backslope.back import back
from backslope.backpaper import shows_form, shows_none
from backslope.errors import Hole, NoRow, NoText, Nought, SlopeError, TooGreat
from backslope.forms import form_plus, form_scaled, form_slope, settled
from backslope.fractions import f_minus, f_moved, f_plus, f_slope
from backslope.limits import limit, value_at
from backslope.lognumbers import held, n_plus, n_scaled, settled_number, sign_of
from backslope.numbers import minus
from backslope.roots import read_root, root_back
from backslope.run import run
from backslope.sheet import show_form, show_log_number
from backslope.slopepaper import shows_no_solution
from backslope.slopes import solve
from backslope.sumpaper import shows_no_sum
from backslope.sums import steps_of, sum_of, summed
from backslope.texts import read, read_x, show, show_number
from samples import (
    FIGURES, HALF, NOUGHT, ONE, UNIT, X, ZERO, form_at, is_form, is_fraction, is_number, is_settled_number, log_worth,
    near, whole)
from test_interface import NAMES

TWO = (2, 1)
P = ((-1, 2), ONE, NOUGHT, (3, 1))
Q = whole([-1, 0, 1])
W = whole([-2, 0, 1])
F = read_x("(x^3 + 2*x - 1)/(x^2 - 1)")
G = read_x("1/(x^2*(x - 1)) + 2*x/(x^2 + 1)")
WILD = read_x("1/(x^2 + 1) + 3/x")
FORM = back(G)[1]
OTHER = back(F)[1]
KIND = (2, (3, 1), (-1, 2))
ROOTED = read_root(KIND, "1/(y - 1) + x")
BARE = read_root((2, ONE, NOUGHT), "1/(x + 1)/y")
STEP = read_x("(x + 1)^2/x")
STUCK = read_x("x/(x + 1)")
NUMBER = ((-2, 3), ((HALF, TWO), ((-5, 7), (9, 4))))
ROWS = [(HALF, P), ((-1, 1), Q), (NOUGHT, X)]
SHEET = "back 1/x\n\narea 1/x ; 1 ; 2 ; 1/100\nsolve 1/x ; x\nlimit 1/x ; end ; above\nsum 1/x\nroot 2 ; 1 ; 0 ; y\nstep 2"
PAIRS = [(ONE, TWO), (HALF, HALF), ((-2, 3), ONE), (NOUGHT, (3, 1)), ((-7, 5), (-5, 7))]
POLYS = [(P, Q), (Q, W), ((), Q), (UNIT, W), (P, P)]
FRACTIONS = [(F, G), (G, ZERO), (ZERO, ZERO), (WILD, F)]

# Arguments for each function.
CALLS = {
    "numbers": {
        "ratio": [(6, -4), (0, 5)], "plus": PAIRS, "minus": PAIRS, "times": PAIRS, "over": PAIRS[:3], "before": PAIRS,
        "floor_of": [(HALF,), ((-7, 3),)], "power": [(HALF, -3), (NOUGHT, 0), ((-2, 3), 7)]},
    "polys": {
        "poly": [([ONE, TWO, NOUGHT],), ([],), ([NOUGHT],)], "degree": [(P,), ((),)], "p_plus": POLYS, "p_minus": POLYS,
        "p_times": POLYS, "p_scaled": [(P, HALF), (Q, NOUGHT)], "p_split": [(P, Q), (Q, P)], "monic": [(P,), ((),)],
        "common": POLYS, "bezout": POLYS, "p_slope": [(P,), (UNIT,)], "p_at": [(P, HALF), ((), ONE)],
        "p_moved": [(P, HALF)], "p_power": [(P, 3), ((), 0)]},
    "linear": {"solved": [([[ONE, TWO]], [ONE]), ([[ONE], [TWO]], [ONE, ONE]), ([], []), ([[], []], [NOUGHT, NOUGHT])]},
    "places": {"rational_roots": [(Q,), (P,), (UNIT,)], "count_between": [(Q, None, None), (W, NOUGHT, TWO)]},
    "parts": {
        "simple_parts": [(whole([0, 0, 1, 1]),), (UNIT,)], "radical": [(whole([0, 0, 1, 1]),)],
        "inverse": [(P, W), (W, W)], "least": [(P, W), ((), W)], "put_into": [(P, Q, W), ((), P, W)], "meets": [(Q, Q), (P, W)]},
    "fractions": {
        "fraction": [(P, Q), ((), W)], "f_plus": FRACTIONS, "f_minus": FRACTIONS, "f_times": FRACTIONS, "f_over": FRACTIONS[:1],
        "f_slope": [(F,), (ZERO,)], "f_at": [(F, HALF), (F, ONE)], "f_moved": [(F, HALF)], "f_poly": [(P,), ((),)],
        "f_number": [(HALF,), (NOUGHT,)]},
    "texts": {
        "read": [("x*a^2 - 1/2", [("x", F), ("a", G)])], "read_x": [("(x - 1)/(x + 1)",)], "show_number": [(HALF,)],
        "show_poly": [(P,), ((),)], "show": [(F,), (ZERO,)]},
    "forms": {
        "settled": [(F, ROWS), (ZERO, [])], "form_slope": [(FORM,)], "form_plus": [(FORM, OTHER)],
        "form_scaled": [(FORM, (-2, 3)), (FORM, NOUGHT)]},
    "back": {"hermite": [(F,), (WILD,)], "residue_parts": [(whole([1]), Q), ((), UNIT)], "back": [(G,), (WILD,), (ZERO,)]},
    "backpaper": {"shows_form": [(G, FORM), (F, FORM)], "shows_none": [(WILD, back(WILD)[1]), (F, back(WILD)[1])]},
    "roots": {
        "x_of": [(KIND,)], "read_root": [(KIND, "x + 1/y")], "parted": [(KIND, ROOTED)], "joined": [(KIND, (F, ZERO))],
        "root_slope": [(KIND, FORM)], "root_back": [(KIND, ROOTED), ((2, ONE, NOUGHT), BARE)],
        "root_shows": [((2, ONE, NOUGHT), BARE, root_back((2, ONE, NOUGHT), BARE)[1])]},
    "sums": {
        "steps_of": [(STEP,)], "top_of": [steps_of(STEP), steps_of(STUCK)], "summed": [(STEP,), (STUCK,)],
        "sum_of": [(read_x("1/(x^2 + x)"),), (read_x("1/x"),)]},
    "sumpaper": {"shows_sum": [(STEP, summed(STEP)[1])], "shows_no_sum": [(STUCK, summed(STUCK)[1])]},
    "slopes": {
        "hold_of": [(read_x("2/x"), F), (WILD, G)], "bottom_of": [(G, ((2, X),))], "reduced": [(F, G, Q)],
        "top_for": [(P, Q, X)], "solve": [(read_x("2/x"), (X, UNIT)), ((UNIT, UNIT), (X, UNIT)),
                                          ((X, UNIT), (UNIT, UNIT)), (read_x("1/(x^2 + 1)"), ZERO)]},
    "slopepaper": {
        "shows_solution": [(F, G, F)], "shows_only": [(WILD, back(WILD)), (G, back(G))],
        "shows_no_solution": [((X, UNIT), (UNIT, UNIT), solve((X, UNIT), (UNIT, UNIT))[1])]},
    "lognumbers": {
        "settled_number": [(HALF, [(HALF, (4, 9)), (NOUGHT, TWO)]), (NOUGHT, [])], "n_plus": [(NUMBER, NUMBER)],
        "n_scaled": [(NUMBER, (-1, 1)), (NUMBER, NOUGHT)], "sign_of": [(NUMBER,)], "held": [(NUMBER, (1, 100))]},
    "limits": {
        "value_at": [(FORM, TWO), (FORM, ONE)],
        "limit": [(FORM, ONE, "above"), (FORM, None, "below"), (OTHER, TWO, "below"), (OTHER, None, "above")]},
    "areas": {"holes": [(G, NOUGHT, ONE), (F, TWO, TWO)], "area": [(G, TWO, (3, 1)), (WILD, TWO, ONE)]},
    "alike": {"alike": [((F, ROWS), (F, ROWS[::-1])), ((F, ROWS), (G, [])), ((ZERO, []), (ZERO, ROWS))]},
    "sheet": {"show_form": [(FORM,), ((ZERO, ()),)], "show_log_number": [(NUMBER,)]},
    "run": {"run": [(SHEET,), ("",)]},
}
# What tells a list, and what tells True or False.
LISTS = ("rational_roots", "simple_parts", "meets", "run")
TRUTHS = ("before", "shows_form", "shows_none", "root_shows", "shows_sum", "shows_no_sum", "shows_solution", "shows_only",
          "shows_no_solution")


def calls():
    for file, names in CALLS.items():
        module = importlib.import_module("backslope." + file)
        for name, many in names.items():
            for arguments in many:
                yield name, getattr(module, name), arguments


def is_plain(value):
    """Whether it is made of tuples, whole numbers and texts (and None, where something isn't there)."""
    if type(value) is tuple:
        return all(is_plain(part) for part in value)
    return value is None or type(value) in (int, str)


def overwritten(value):
    """Makes all lists in what is told, or handed in, other ones."""
    if type(value) is list:
        value.append("other")
        value.reverse()
    if type(value) in (list, tuple):
        for part in value:
            overwritten(part)


class Kinds(unittest.TestCase):
    def test_each_function_is_called(self):
        asked = {file: set(names) for file, names in NAMES.items() if file != "errors"}
        self.assertEqual({file: set(names) for file, names in CALLS.items()}, asked)

    def test_what_is_told(self):
        for name, function, arguments in calls():
            answer = function(*arguments)
            if name in TRUTHS:
                self.assertIs(type(answer), bool, name)
            elif name in LISTS:
                self.assertIs(type(answer), list, name)
                self.assertTrue(all(is_plain(part) for part in answer), name)
            else:
                self.assertTrue(is_plain(answer), (name, answer))

    def test_nothing_handed_in_is_changed(self):
        for name, function, arguments in calls():
            kept = deepcopy(arguments)
            function(*arguments)
            self.assertEqual(arguments, kept, name)

    def test_asked_again(self):
        for name, function, arguments in calls():
            answer = function(*arguments)
            self.assertEqual(function(*arguments), answer, name)
            self.assertEqual(function(*deepcopy(arguments)), answer, name)

    def test_what_is_told_may_be_changed(self):
        for name, function, arguments in calls():
            answer = function(*arguments)
            kept = deepcopy(answer)
            overwritten(answer)
            self.assertEqual(function(*arguments), kept, name)

    def test_what_was_handed_in_may_be_changed_afterwards(self):
        for name, function, arguments in calls():
            mine = deepcopy(arguments)
            answer = function(*mine)
            kept = deepcopy(answer)
            overwritten(mine)
            self.assertEqual(answer, kept, name)
            self.assertEqual(function(*arguments), kept, name)


class Refusals(unittest.TestCase):
    def refused(self, kind, function, *arguments):
        kept = deepcopy(arguments)
        for time in range(2):
            with self.assertRaises(SlopeError) as caught:
                function(*arguments)
            self.assertIs(type(caught.exception), kind)
            found = [other for other in (NoText, Nought, TooGreat, Hole, NoRow) if isinstance(caught.exception, other)]
            self.assertEqual(found, [kind])
        self.assertEqual(arguments, kept)
        return caught.exception

    def test_each_of_its_own_class(self):
        letters = [("x", F), ("a", ZERO)]
        self.refused(NoText, read, "x +", letters)
        self.refused(NoText, read, "1/a + y", letters)
        self.refused(Nought, read, "1/a", letters)
        self.refused(NoText, read_x, "y")
        self.refused(Nought, read_x, "1/(x - x)")
        self.refused(NoText, read_root, KIND, "z")
        self.refused(Nought, read_root, (2, ONE, NOUGHT), "1/(y^2 - x)")
        self.refused(TooGreat, steps_of, read_x("(x + 25)/x"))
        self.refused(TooGreat, summed, read_x("(x + 25)/x"))
        self.refused(TooGreat, sum_of, read_x("x^30"))
        self.refused(TooGreat, solve, read_x("25/x"), ZERO)
        self.refused(TooGreat, solve, ZERO, read_x("x^30"))

    def test_values(self):
        self.assertEqual(self.refused(Hole, area, F, (-2, 1), TWO).many, 2)
        self.assertEqual(self.refused(Hole, area, F, ONE, ONE).many, 1)
        self.assertEqual(self.refused(Hole, area, WILD, ONE, NOUGHT).many, 1)
        self.assertEqual(self.refused(NoRow, run, "back 1/0").line, 0)
        self.assertEqual(self.refused(NoRow, run, "back 1\n\nback y\nback z").line, 2)


class HandedInAgain(unittest.TestCase):
    """What was told may be handed in again, whatever its size."""

    def told(self, answer):
        self.assertEqual(answer[0], "told")
        return answer[1]

    def test_a_sum_of_great_degree(self):
        S = self.told(sum_of(read_x("1/(x + 1) - 1/(x + 24)")))
        self.assertGreater(len(S[1]), 20)
        self.assertEqual(f_minus(f_moved(S, ONE), S), read_x("1/(x + 1) - 1/(x + 24)"))
        form = self.told(back(S))
        self.assertTrue(is_form(form) and shows_form(S, form))
        self.assertEqual(self.told(back(f_slope(S)))[1], ())
        n = self.told(area(S, NOUGHT, ONE))
        self.assertTrue(is_settled_number(n))
        self.assertTrue(near(log_worth(*n), FIGURES.subtract(form_at(form, Fraction(1)), form_at(form, Fraction(0)))))
        self.assertEqual(sign_of(n), -1)
        self.assertEqual(holes(S, (-24, 1), NOUGHT), 23)
        self.assertEqual(limit(form, (-1, 1), "above"), ("up",))
        for c in held(n, (1, 10 ** 40)):
            self.assertTrue(is_number(c) and show_number(c))
        self.assertIsInstance(show(S) + show_form(form) + show_log_number(n), str)

    def test_numbers_held(self):
        low, high = held(NUMBER, (1, 10 ** 40))
        n = settled_number(low, [(high, TWO), (low, (3, 1))])
        self.assertTrue(is_settled_number(n))
        self.assertEqual(n_plus(n, n_scaled(n, (-1, 1))), (NOUGHT, ()))
        start, end = held(n, (1, 10 ** 40))
        for one, other in ((low, high), (start, end), (end, low)):
            self.assertEqual(area((UNIT, UNIT), one, other), ("told", (minus(other, one), ())))
        self.assertTrue(is_settled_number(value_at(FORM, high)))
        self.assertTrue(is_settled_number(self.told(area(G, low, high))))

    def test_forms(self):
        form = form_plus(FORM, form_scaled(OTHER, (-7, 3)))
        f = form_slope(form)
        again = self.told(back(f))
        word, n = alike((again[0], list(again[1])), (form[0], list(form[1])))
        self.assertEqual((word, n[1]), ("alike", ()))
        self.assertEqual(settled(again[0], list(again[1]))[0], again)
        self.assertTrue(is_fraction(f_slope(f)) and shows_form(f_slope(f), (f, ())))
        n = value_at(again, (7, 3))
        self.assertEqual(limit(again, (7, 3), "above"), ("number", n))

    def test_papers(self):
        f = f_plus(WILD, f_slope(G))
        self.assertTrue(shows_none(f, area(f, TWO, (3, 1))[1]))
        self.assertTrue(shows_no_sum(STUCK, summed(STUCK)[1]))
        self.assertTrue(shows_no_solution((X, UNIT), (UNIT, UNIT), solve((X, UNIT), (UNIT, UNIT))[1]))

    def test_a_sheet_of_what_was_told(self):
        Y = run("solve 2/x + 1/(x - 3) ; x^5 - 1/x^2")[0].split(" ; ")[0][5:]
        self.assertTrue(run("back " + Y)[0].startswith("told "))
        S = run("sum x^7")[0][5:]
        self.assertEqual(read_x(S), self.told(sum_of(read_x("x^7"))))
        self.assertEqual(run(f"back {S}\nsum {S}"), run("back " + S) + run("sum " + S))


if __name__ == "__main__":
    unittest.main()
