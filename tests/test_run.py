import re
import unittest
from decimal import Decimal, localcontext
from fractions import Fraction
from random import Random

from backslope.areas import area
from backslope.back import back
from backslope.errors import Hole, NoRow, NoText, Nought, SlopeError, TooGreat
from backslope.limits import limit
from backslope.lognumbers import held
from backslope.roots import read_root, root_back
from backslope.run import run
from backslope.sheet import show_form, show_log_number
from backslope.slopes import solve
from backslope.sums import sum_of, summed
from backslope.texts import read_x, show, show_number
from samples import FIGURES, NOUGHT, ONE, ZERO, near

WHOLE = re.compile("[0-9]+")
PLACES = [Fraction(n) for n in range(-15, 16)]
TINY = "1/10^40"
# Of each kind of row some, and the answers.
ANSWERS = (
    ("back 0", "told 0"),
    ("back 2*x", "told x^2"),
    ("back 1/x", "told 1*log(x)"),
    ("back -1/x", "told -1*log(x)"),
    ("back 1/(x^2 - 1)", "told -1/2*log(x + 1) + 1/2*log(x - 1)"),
    ("back 1 + 1/x^2 - 3/(2*x - 1)", "told (x^2 - 1)/(x) - 3/2*log(x - 1/2)"),
    ("back 2*x/(x^2 + 1)", "told 1*log(x^2 + 1)"),
    ("back 1/(x^2 + 1)", "none"),
    ("back 1/(x^2 - 2)", "none"),
    ("root 2 ; 1 ; 0 ; 1/(y - 1)", "told 2*y + 2*log(y - 1)"),
    ("root 2 ; 1 ; 0 ; 1", "told y^2"),
    ("root 3 ; 2 ; 1 ; 0", "told 0"),
    ("root 4 ; -1/2 ; 3 ; 1/y^4", "told -8*log(y)"),
    ("root 2 ; 1 ; 0 ; 1/(x + 1)/y", "none"),
    ("sum 0", "told 0"),
    ("sum x - x", "told 0"),
    ("sum 1", "told x"),
    ("sum x", "told 1/2*x^2 - 1/2*x"),
    ("sum 1/(x^2 + x)", "told (-1)/(x)"),
    ("sum 1/x", "none"),
    ("sum x^29", None),
    ("sum x^30", "too great"),
    ("sum x^40", "too great"),
    ("step (x + 1)^2/x", "told (1)/(x)"),
    ("step 2", "told 1"),
    ("step 1", "told x"),
    ("step x/(x + 1)", "none"),
    ("step (x + 24)/x", None),
    ("step (x + 25)/x", "too great"),
    ("solve 1 ; x", "told x - 1"),
    ("solve 0 ; x", "told 1/2*x^2 ; 1"),
    ("solve 2/x ; x", "told 1/4*x^2 ; (1)/(x^2)"),
    ("solve 1 ; 0", "told 0"),
    ("solve x ; 1", "none"),
    ("solve 24/x ; 1", "told 1/25*x ; (1)/(x^24)"),
    ("solve 25/x ; 1", "too great"),
    ("solve 0 ; x^40", "too great"),
    ("area 0 ; 1 ; 2 ; 1", "told 0 ; 0 ; 0"),
    ("area x ; 0 ; 3 ; 1/7", "told 9/2 ; 9/2 ; 9/2"),
    ("area x ; 3 ; 0 ; 1/7", "told -9/2 ; -9/2 ; -9/2"),
    ("area 1/x ; 5 ; 5 ; 1/7", "told 0 ; 0 ; 0"),
    ("area 1/x ; 1 ; 2 ; 1/7", None),
    ("area 1/x ; -1 ; -2 ; " + TINY, None),
    ("area 1/(x^2 + 1) ; 0 ; 1 ; 1", "none"),
    ("area 1/(x^2 + 1) ; 1 ; 1 ; 1", "none"),
    ("area 1/x ; 0 ; 1 ; 1", "hole 1"),
    ("area 1/x ; 1 ; 0 ; 1", "hole 1"),
    ("area 1/x^2 ; 1 ; -1 ; 1", "hole 1"),
    ("area 1/(x^2 - 2) ; -2 ; 2 ; 1", "hole 2"),
    ("area 1/x/(x - 1)/(x - 2)^2 ; 0 ; 2 ; 1", "hole 3"),
    ("limit 1/x ; 0 ; above", "down"),
    ("limit -1/x ; 0 ; below", "up"),
    ("limit 1/x^2 ; 0 ; below", "up"),
    ("limit 1/x^2 ; 0 ; above", "down"),
    ("limit 1/x ; end ; below", "up"),
    ("limit x ; end ; above", "up"),
    ("limit x^2 ; end ; below", "down"),
    ("limit 1/x ; 2 ; below", "number 1*log(2)"),
    ("limit 1/x ; -1 ; above", "number 0"),
    ("limit 1/(x^2 - 1) ; end ; below", "number 0"),
    ("limit 1/(x^2 + x) ; 1/2 ; above", "number -1*log(3)"),
    ("limit x ; 3 ; above", "number 9/2"),
    ("limit 1/(x^2 + 1) ; 0 ; above", "none"),
    ("limit 1/(x^2 - 2) ; end ; below", "none"),
)
BAD = (
    # No such word.
    "x", "0", "backs x", "Back x", "BACK x", "bac k x", "told x", "form x", ";", "back", "sum", "limit", "integral x",
    # No blank behind the word.
    "back(x)", "back;x", "sum;x", "step-x", "solve;1;x", "back1", "root2;1;0;y", "limit;1/x;0;above", "area\tx;0;1;1",
    # Too few parts, or too many.
    "solve 1", "root 2 ; 1 ; 0", "root 2", "area x ; 0 ; 1", "area x", "limit x", "limit x ; 0", "limit x ; above",
    "back x ; x", "sum x ; x", "step x ; 1", "solve 1 ; x ; 1", "root 2 ; 1 ; 0 ; y ; y", "area x ; 0 ; 1 ; 1 ; 1",
    "limit x ; 0 ; above ; above", "limit x ; end ; 0 ; above",
    # An empty part.
    "back ;", "back x ;", "back ; x", "solve ; 1", "solve 1 ;", "solve ;", "root ; 1 ; 0 ; y", "root 2 ; ; 0 ; y",
    "root 2 ; 1 ; ; y", "root 2 ; 1 ; 0 ;", "area ; 0 ; 1 ; 1", "area x ; ; 1 ; 1", "area x ; 0 ; ; 1",
    "area x ; 0 ; 1 ;", "limit ; 0 ; above", "limit x ; ; above", "limit x ; 0 ;", "root ;;;", "area ;;;", "limit ;;",
    "sum ;", "step ;",
    # Texts that are no expressions.
    "back x +", "back x x", "back 2x", "back x^41", "back x^-1", "back 01", "back (x", "back x)", "back x**2",
    "back 1.5", "back 1234567890123", "back x^2^2", "back +x", "back x, x", "back x # 1", "sum 2 x", "step x/",
    "solve x+ ; 1", "solve 1 ; +", "root 2 ; 1 1 ; 0 ; y", "root 2 ; 1 ; 0- ; y", "root 2 ; 1 ; 0 ; y y",
    "area x* ; 0 ; 1 ; 1", "area x ; 0. ; 1 ; 1", "area x ; 0 ; one ; 1", "area x ; 0 ; 1 ; 1e5",
    "limit x! ; 0 ; above", "limit x ; 0) ; above", "back " + "(" * 21 + "x" + ")" * 21, "back x\t", "back x\r",
    # Letters that aren't there.
    "back y", "back a", "back X", "sum k", "step y", "solve y ; 1", "solve 1 ; y", "area y ; 0 ; 1 ; 1",
    "limit y ; 0 ; above", "root 2 ; 1 ; 0 ; z", "root 2 ; y/y ; 0 ; y", "root 2 ; 1 ; y - y ; y", "area x ; y ; 1 ; 1",
    "limit x ; y ; above", "limit x ; x*end ; above", "limit end ; 0 ; above", "area x ; end ; 1 ; 1",
    "area x ; 0 ; end ; 1",
    # Something divided by nought.
    "back 1/0", "back 1/(x - x)", "back x/(1 - 1)^2", "back 0/0", "back 0*(1/0)", "sum 1/0", "step 1/(x - x)",
    "solve 1/0 ; 1", "solve 1 ; 1/0", "root 2 ; 1/0 ; 0 ; y", "root 2 ; 1 ; 1/0 ; y", "root 2 ; 1 ; 0 ; 1/0",
    "root 2 ; 1 ; 0 ; 1/(y^2 - x)", "root 3 ; 2 ; -1 ; x/(y^3 - 2*x + 1)", "area 1/0 ; 0 ; 1 ; 1",
    "area x ; 1/0 ; 1 ; 1", "area x ; 0 ; 1/(x - x) ; 1", "area x ; 0 ; 1 ; 1/0", "limit 1/0 ; 0 ; above",
    "limit x ; 1/0 ; above",
    # Places that are no numbers.
    "root 2 ; x ; 0 ; y", "root 2 ; 1 ; x ; y", "root 2 ; 1/x ; 0 ; y", "area x ; x ; 1 ; 1", "area x ; 0 ; 1/x ; 1",
    "area x ; 0 ; x^2 ; 1", "area x ; 0 ; 1 ; x", "area x ; 0 ; 1 ; 1/x", "limit x ; x ; above",
    "limit x ; 1/(x + 1) ; above", "limit x ; End ; above", "limit x ; ends ; above", "limit x ; e nd ; above",
    "limit x ; -end ; above", "limit x ; None ; above",
    # A root's N or A.
    "root 1 ; 1 ; 0 ; y", "root 5 ; 1 ; 0 ; y", "root 0 ; 1 ; 0 ; y", "root -2 ; 1 ; 0 ; y", "root 1 + 1 ; 1 ; 0 ; y",
    "root 02 ; 1 ; 0 ; y", "root (2) ; 1 ; 0 ; y", "root 4/2 ; 1 ; 0 ; y", "root 22 ; 1 ; 0 ; y",
    "root two ; 1 ; 0 ; y", "root x ; 1 ; 0 ; y", "root 2 ; 0 ; 0 ; y", "root 2 ; 1 - 1 ; 0 ; y",
    "root 3 ; x - x ; 1 ; 1", "root 4 ; 0 ; 1 ; 0",
    # An area's C.
    "area x ; 0 ; 1 ; 0", "area x ; 0 ; 1 ; -1", "area x ; 0 ; 1 ; x - x", "area x ; 0 ; 1 ; 1/10^40/2",
    "area x ; 0 ; 1 ; -1/10^40", "area x ; 0 ; 1 ; 999999999998/(10^40*999999999999)", "area x ; 0 ; 1 ; 1/(10^40 + 1)",
    "area 1/x ; 0 ; 1 ; 0",
    # A step of nought.
    "step 0", "step x - x", "step 0*x", "step 0/x",
    # Another SIDE.
    "limit x ; 0 ; up", "limit x ; 0 ; Above", "limit x ; 0 ; a bove", "limit x ; 0 ; 0", "limit x ; end ; end",
    "limit x ; end ; x", "limit x ; 0 ; above below", "limit x ; 0 ; abov", "limit x ; 0 ; aboveabove",
    "limit x ; above ; 0",
)


class Slope:
    """A worth at a place, and the slope there."""

    def __init__(self, worth, slope=0):
        self.worth = Fraction(worth)
        self.slope = Fraction(slope)

    def __add__(self, other):
        other = slope_of(other)
        return Slope(self.worth + other.worth, self.slope + other.slope)

    def __mul__(self, other):
        other = slope_of(other)
        return Slope(self.worth * other.worth, self.slope * other.worth + self.worth * other.slope)

    def __truediv__(self, other):
        other = slope_of(other)
        return self * Slope(1 / other.worth, -other.slope / other.worth ** 2)

    def __pow__(self, n):
        result = Slope(1)
        for time in range(int(n)):
            result = result * self
        return result

    def __neg__(self):
        return self * -1

    def __sub__(self, other):
        return self + -slope_of(other)

    def __radd__(self, other):
        return slope_of(other) + self

    def __rmul__(self, other):
        return slope_of(other) * self

    def __rsub__(self, other):
        return slope_of(other) - self

    def __rtruediv__(self, other):
        return slope_of(other) / self


def slope_of(value):
    return value if isinstance(value, Slope) else Slope(value)


def log_slope(value):
    """The logarithm's slope; its worth isn't asked for."""
    return Slope(0, slope_of(value).slope / slope_of(value).worth)


def reckoned(text, kind, letters):
    """A text's worth by Python's own rules, which are the document's; None where something is divided by nought."""
    code = WHOLE.sub(r"kind(\g<0>)", text.replace("^", "**"))
    try:
        return eval(code, {"kind": kind, **letters})
    except ZeroDivisionError:
        return None


def worth_of(text, x):
    return reckoned(text, Fraction, {"x": x})


def with_slope(text, letters):
    """None where there is none."""
    found = reckoned(text, Fraction, {**letters, "log": log_slope})
    return None if found is None else slope_of(found)


def with_figures(text, x=None):
    """A text's worth to some hundred figures, logarithms too."""
    with localcontext(FIGURES):
        return reckoned(text, Decimal, {"x": x, "log": lambda size: abs(size).ln()})


def words_of(row):
    word, rest = row.strip().split(" ", 1)
    return word, [part.strip() for part in rest.split(";")]


def text_of(told, show_it):
    return "told " + show_it(told[1]) if told[0] == "told" else "none"


def asked(row):
    """The answer's text, of what the functions tell one by one."""
    word, parts = words_of(row)
    try:
        return asked_of(word, parts)
    except TooGreat:
        return "too great"


def asked_of(word, parts):
    if word == "back":
        return text_of(back(read_x(parts[0])), show_form)
    if word == "root":
        kind = (int(parts[0]), number(parts[1]), number(parts[2]))
        return text_of(root_back(kind, read_root(kind, parts[3])), lambda form: show_form(form).replace("x", "y"))
    if word == "sum":
        return "told 0" if read_x(parts[0]) == ZERO else text_of(sum_of(read_x(parts[0])), show)
    if word == "step":
        return text_of(summed(read_x(parts[0])), show)
    if word == "solve":
        told = solve(read_x(parts[0]), read_x(parts[1]))
        return text_of(told, show) + (" ; " + show(told[2]) if told[0] == "told" and told[2] is not None else "")
    if word == "area":
        return asked_area(read_x(parts[0]), number(parts[1]), number(parts[2]), number(parts[3]))
    told = back(read_x(parts[0]))
    if told[0] == "none":
        return "none"
    goes = limit(told[1], None if parts[1] == "end" else number(parts[1]), parts[2])
    return "number " + show_log_number(goes[1]) if goes[0] == "number" else goes[0]


def asked_area(f, low, high, width):
    try:
        told = area(f, low, high)
    except Hole as hole:
        return "hole " + str(hole.many)
    if told[0] == "none":
        return "none"
    return "told " + " ; ".join([show_log_number(told[1])] + [show_number(end) for end in held(told[1], width)])


def number(text):
    top, bottom = read_x(text)
    assert bottom == (ONE,)
    return top[0] if top else NOUGHT


class Answers(unittest.TestCase):
    def test_each_row_by_itself(self):
        for row, answer in ANSWERS:
            told = run(row)
            self.assertIs(type(told), list)
            self.assertEqual([type(text) for text in told], [str])
            self.assertEqual(told, [asked(row)], row)
            if answer is not None:
                self.assertEqual(told, [answer], row)

    def test_all_answers_are_met(self):
        found = {(words_of(row)[0], run(row)[0].split(" ")[0]) for row, answer in ANSWERS}
        found |= {(words_of(row)[0], " ; ") for row, answer in ANSWERS if " ; " in run(row)[0]}
        kinds = {"back": ("told", "none"), "root": ("told", "none"), "sum": ("told", "none", "too"),
                 "step": ("told", "none", "too"), "solve": ("told", " ; ", "none", "too"),
                 "area": ("told", " ; ", "none", "hole"), "limit": ("number", "up", "down", "none")}
        self.assertEqual(found, {(word, kind) for word, many in kinds.items() for kind in many})

    def test_all_together(self):
        rows = [row for row, answer in ANSWERS]
        answers = [asked(row) for row in rows]
        self.assertEqual(run("\n".join(rows[:40])), answers[:40])
        self.assertEqual(run("\n".join(rows[-40:])), answers[-40:])
        self.assertEqual(run("\n".join(rows[39::-1])), answers[39::-1])
        # More rows than a sheet has are not refused.
        self.assertEqual(run("\n".join(rows)), answers)

    def test_forty_rows(self):
        rows = [f"back {n}*x^{n}" for n in range(1, 41)]
        answers = run("\n".join(rows))
        self.assertEqual(answers, [asked(row) for row in rows])
        self.assertEqual(answers[0], "told 1/2*x^2")
        self.assertEqual(answers[39], "told 40/41*x^41")
        self.assertEqual(run("\n".join(["sum 1"] * 40)), ["told x"] * 40)

    def test_no_row(self):
        for text in ("", " ", "   ", "\n", "\n\n\n", " \n", "\n  \n", " \n \n ", "\n" * 39):
            self.assertEqual(run(text), [])

    def test_rows_of_blanks_are_passed_over(self):
        for text in ("back 1", "back 1\n", "\nback 1", "\n\n  \nback 1\n \n", "   \nback 1\n   "):
            self.assertEqual(run(text), ["told x"])
        self.assertEqual(run("back 1\n\nsum 1\n  \n\nback 0\n"), ["told x", "told x", "told 0"])

    def test_blanks(self):
        for row, answer in ANSWERS:
            word, parts = words_of(row)
            answers = run(row)
            for joint in (";", " ; ", ";  ", "  ;", "   ;   "):
                for ahead, gap, behind in (("", " ", ""), (" ", "    ", ""), ("", " ", "   "), ("   ", "  ", " ")):
                    self.assertEqual(run(ahead + word + gap + joint.join(parts) + behind), answers)
                    self.assertEqual(run(ahead + word + gap + joint.join(parts) + behind + "\n"), answers)
        self.assertEqual(run("back ( 1 +  x ) ^ 2 / x"), run("back (1+x)^2/x"))
        self.assertEqual(run("root 2;1;0;1/(y-1)"), ["told 2*y + 2*log(y - 1)"])

    def test_numbers_by_expressions(self):
        for row, other in (
                ("root 2 ; x/x ; x - x ; 1/(y - 1)", "root 2 ; 1 ; 0 ; 1/(y - 1)"),
                ("root 2 ; -(1 - 4)/2 ; 2^3 ; y", "root 2 ; 3/2 ; 8 ; y"),
                ("area x ; 1 - 1 ; (x + 1)^2 - x^2 - 2*x + 2 ; 1/7", "area x ; 0 ; 3 ; 1/7"),
                ("limit 1/x ; 4/2 ; below", "limit 1/x ; 2 ; below"), ("limit 1/x ; 0*x ; below", "limit 1/x ; 0 ; below"),
                ("area 1/x ; 1 ; 2 ; x/(7*x)", "area 1/x ; 1 ; 2 ; 1/7"),
                ("area 1/x ; 1 ; 2 ; 10^12*10^12/(10^12*10^12*10^40)", "area 1/x ; 1 ; 2 ; " + TINY)):
            self.assertEqual(run(row), run(other))
            self.assertNotIn(run(row), (["none"], []))

    def test_asked_again_and_what_is_told_may_be_changed(self):
        text = "\n".join(row for row, answer in ANSWERS)
        answers = run(text)
        kept = list(answers)
        answers.clear()
        self.assertEqual(run(text), kept)
        answers = run(text)
        answers[0] = "other"
        self.assertEqual(run(text), kept)

    def test_the_letter_of_a_root(self):
        answer = run("root 3 ; 2 ; -1 ; x/(y - 1)^2 + 1/(y + 2)")[0]
        self.assertNotIn("x", answer)
        self.assertIn("log(y", answer)
        self.assertEqual(run("back 1/(x - 1)^2 + 3")[0].count("y"), 0)


class Refusals(unittest.TestCase):
    def refused(self, text, line):
        with self.assertRaises(NoRow) as caught:
            run(text)
        self.assertEqual(caught.exception.line, line, text)
        self.assertIs(type(caught.exception.line), int)
        self.assertIsInstance(caught.exception, SlopeError)
        self.assertNotIsInstance(caught.exception, (NoText, Nought, TooGreat, Hole))

    def test_by_itself(self):
        for row in BAD:
            self.refused(row, 0)
            self.refused("  " + row + "  ", 0)
            self.refused(row + "\n", 0)

    def test_behind_good_ones(self):
        good = [row for row, answer in ANSWERS]
        for place, row in enumerate(BAD):
            ahead = (good * 9)[place:place + place % 7]
            self.refused("\n".join(ahead + [row]), len(ahead))
            self.refused("\n".join(ahead + [row, "back x"]), len(ahead))

    def test_rows_of_blanks_are_counted(self):
        for place, row in enumerate(BAD):
            ahead = "\n" * (place % 4) + "  \n" * (place % 3)
            self.refused(ahead + row, place % 4 + place % 3)
            self.refused("back 1\n" + ahead + row + "\n", 1 + place % 4 + place % 3)

    def test_the_first_of_two(self):
        for row, other in zip(BAD, BAD[1:] + BAD[:1]):
            self.refused(row + "\n" + other, 0)
            self.refused("sum x\n" + row + "\n\nback 1\n" + other, 1)

    def test_the_last_of_forty(self):
        rows = [row for row, answer in ANSWERS[:39]]
        for row in BAD[::5]:
            self.refused("\n".join(rows + [row]), 39)

    def test_ahead_of_what_is_too_great_and_of_holes(self):
        self.refused("step (x + 25)/x\narea 1/x ; 0 ; 1 ; 1\nback 1/0", 2)
        self.refused("back 1/0\nstep (x + 25)/x", 0)
        self.refused("area 1/x ; -1 ; 1 ; 0", 0)
        self.refused("solve 25/x ; 1\nsolve 25/x", 1)

    def test_the_bounds_of_an_area_s_width(self):
        for good in (TINY, "1/10^39/10", "7/10^40", "999999999999", "999999999999/(999999999998*10^40)", "10^40"):
            self.assertEqual(run("area x ; 0 ; 1 ; " + good), ["told 1/2 ; 1/2 ; 1/2"])
        for bad in ("1/10^40/2", "1/(10^40 + 1)", "999999999998/(10^40*999999999999)", "0", "-1", "-10^40"):
            self.refused("area x ; 0 ; 1 ; " + bad, 0)

    def test_other_signs(self):
        for sign in "!\"#$&'*+,-./0:<=>?@AZ[\\]^_`az{|}~\t":
            self.refused(sign, 0)
            self.refused("back 1" + sign if sign not in "0" else "back 0" + sign, 0)
            self.refused("sum 1\n" + sign + "back 1", 1)


def drawn_rows():
    """Rows that are told an answer mostly."""
    chance = Random(361)
    lines = ["x", "(x - 1)", "(x + 2)", "(2*x - 3)", "(x - 7)", "(x^2 + 1)", "(x^2 + x + 3)", "(x^2 - 2)", "(x^3 - 5)"]
    slopes = {"(x^2 + 1)": "2*x", "(x^2 + x + 3)": "(2*x + 1)", "(x^2 - 2)": "2*x", "(x^3 - 5)": "3*x^2",
              "(2*x - 3)": "2"}
    rows = []
    for time in range(40):
        found = chance.sample(lines, 3)
        logs = [f"{chance.randrange(-5, 6)}/{chance.randrange(1, 4)}*{slopes.get(v, '1')}/{v}" for v in found]
        poles = f"{chance.randrange(-5, 6)}*{slopes.get(found[0], '1')}/{found[0]}^{chance.randrange(2, 5)}"
        E = " + ".join(logs[:time % 4] + [poles] * (time % 2) + [f"{chance.randrange(-9, 10)}*x^{time % 5}"])
        rows.append(f"back {E}")
        low = chance.randrange(-9, 9)
        rows.append(f"area {E} ; {low} ; {low} + {chance.randrange(-3, 4)}/2 ; 1/10^{chance.randrange(41)}")
        place = chance.choice(["end", "0", "1", "-2", "3/2", "5"])
        rows.append(f"limit {E} ; {place} ; {chance.choice(['above', 'below'])}")
    return rows


ROWS = [row for row, answer in ANSWERS] + drawn_rows()


class Worths(unittest.TestCase):
    """What is told, as a text, against what the rows tell, as texts: all reckoned here."""

    def told(self, word):
        """Pairs of the parts of a row and of its answer, where something is told."""
        rows = [row for row in ROWS + self.more(word) if words_of(row)[0] == word]
        answers = [run(row)[0] for row in rows]
        self.assertEqual(answers, [asked(row) for row in rows])
        found = [(words_of(row)[1], answer) for row, answer in zip(rows, answers)]
        return [(parts, answer[5:].split(" ; ")) for parts, answer in found if answer.startswith("told ")]

    def more(self, word):
        more = {
            "root": [
                "root 2 ; 3 ; -1/2 ; x*y", "root 3 ; -2/3 ; 5 ; x/y^2 + y", "root 4 ; 1/6 ; 1/4 ; 1/(y^3*(y - 1))",
                "root 2 ; 5 ; 7 ; (x + y)/(x - y)", "root 2 ; 1 ; 0 ; 1/(y*(y^2 - 1))",
                "root 3 ; 1 ; 0 ; 1/x/(y + 1)^3", "root 4 ; -7 ; 2 ; (y + 1)^5 - x",
                "root 3 ; 1 ; 1 ; 1/(x + 1) + 1/(y - 2)^2"],
            "sum": [
                "sum x^5 - 3*x^2/7", "sum 1/x^2 - 1/(x + 1)^2", "sum 1/((x + 3)*(x + 5))",
                "sum (2*x + 1)/(x^2*(x + 1)^2)", "sum x^12", "sum 1/(x*(x + 1)*(x + 2)) + x^3",
                "sum 1/(x^2 + 1) - 1/((x + 3)^2 + 1)", "sum -7/3"],
            "step": [
                "step 2*(x + 1)/x", "step x + 2 - 1/(x + 1)", "step 1/2", "step -3", "step (x + 1)/x*(x + 3)/(x + 2)",
                "step (x + 1)*(x + 2)/x", "step x/(x + 3)", "step 4*(2*x + 1)/(2*x + 4)", "step (2*x + 1)/(2*x + 4)"],
            "solve": [
                "solve 1/x ; 1/x^2 + x", "solve 3/x + 2/(x - 1) ; x^2", "solve -2/x ; x^5", "solve 2*x ; 2*x^3 + 2*x",
                "solve 1/x^2 ; 1 - 1/x - 1/x^2 + 1/x", "solve x ; x^2 + 1", "solve 1/(x^2 + 1) ; 0",
                "solve 2*x/(x^2 + 1) ; 3*x^2 + 1", "solve 1 - 1/x ; x + 2", "solve 0 ; 1/x^3",
                "solve 5 ; 5/(x - 2) - 1/(x - 2)^2"],
        }
        return more.get(word, [])

    def each(self, texts, check):
        """The check at whole places, where all texts have worths."""
        many = 0
        for x in PLACES:
            if all(worth_of(text, x) is not None and worth_of(text, x + 1) is not None for text in texts):
                check(x)
                many += 1
        self.assertGreater(many, 12)

    def test_back(self):
        found = self.told("back")
        self.assertGreater(len(found), 40)
        for (E,), (form,) in found:
            many = 0
            for x in PLACES:
                worth = worth_of(E, x)
                if worth is not None:
                    self.assertEqual(with_slope(form, {"x": Slope(x, 1)}).slope, worth, (E, form))
                    many += 1
            self.assertGreater(many, 20)

    def test_root(self):
        found = self.told("root")
        self.assertGreater(len(found), 10)
        for (n, a, b, E), (form,) in found:
            many = 0
            for y in PLACES:
                x = (Slope(y, 1) ** int(n) - Fraction(b)) / Fraction(a)
                worth = reckoned(E, Fraction, {"x": x.worth, "y": y})
                if worth is not None and x.slope != 0:
                    self.assertEqual(with_slope(form, {"y": Slope(y, 1)}).slope / x.slope, worth, (E, form))
                    many += 1
            self.assertGreater(many, 20)

    def test_sum(self):
        found = self.told("sum")
        self.assertGreater(len(found), 12)
        for (F,), (S,) in found:
            self.each([F, S], lambda x: self.assertEqual(worth_of(S, x + 1) - worth_of(S, x), worth_of(F, x), (F, S)))

    def test_step(self):
        found = self.told("step")
        self.assertGreater(len(found), 8)
        for (r,), (s,) in found:
            self.each([r, s], lambda x: self.assertEqual(worth_of(s, x + 1) * worth_of(r, x), worth_of(s, x) + 1, (r, s)))

    def test_solve(self):
        found = self.told("solve")
        self.assertGreater(len(found), 12)
        self.assertEqual({len(answer) for parts, answer in found}, {1, 2})
        for (f, g), answer in found:
            self.solves(f, g, answer[0])
            if len(answer) == 2:
                self.assertNotEqual(answer[1], "0")
                self.solves(f, "0", answer[1])

    def solves(self, f, g, y):
        def check(x):
            found = with_slope(y, {"x": Slope(x, 1)})
            self.assertEqual(found.slope + worth_of(f, x) * found.worth, worth_of(g, x), (f, g, y))
        self.each([f, g, y], check)

    def test_area(self):
        found = self.told("area")
        self.assertGreater(len(found), 20)
        for (E, A, B, C), (N, low, high) in found:
            worth = with_figures(N)
            self.assertTrue(near(min(worth, with_figures(low)), with_figures(low)))
            self.assertTrue(near(max(worth, with_figures(high)), with_figures(high)))
            self.assertLessEqual(worth_of(high, 0) - worth_of(low, 0), worth_of(C, 0))
            boxes = self.boxes(E, worth_of(A, 0), worth_of(B, 0))
            self.assertAlmostEqual(boxes, float(worth), delta=1e-6 * (1 + abs(boxes)))

    def boxes(self, E, low, high):
        """The area by Simpson's rule, in many steps."""
        steps = 600
        worths = [float(worth_of(E, low + (high - low) * step / steps)) for step in range(steps + 1)]
        inner = 4 * sum(worths[1:-1:2]) + 2 * sum(worths[2:-1:2])
        return (worths[0] + inner + worths[-1]) * float(high - low) / steps / 3

    def test_limit(self):
        rows = [row for row in ROWS if words_of(row)[0] == "limit"]
        found = {}
        for row in rows:
            answer = run(row)[0]
            self.assertEqual(answer, asked(row))
            E, place, side = words_of(row)[1]
            form = run("back " + E)[0]
            self.assertEqual(form == "none", answer == "none")
            if form != "none":
                self.goes(form[5:], place, side, answer)
            found[answer.split(" ")[0]] = found.get(answer.split(" ")[0], 0) + 1
        self.assertEqual(set(found), {"number", "up", "down", "none"})
        self.assertGreater(min(found.values()), 1)

    def goes(self, form, place, side, answer):
        turn = 1 if side == "above" else -1
        with localcontext(FIGURES):
            if place == "end":
                ways = [turn * Decimal(10) ** figures for figures in (40, 80)]
            else:
                ways = [with_figures(place) + turn * Decimal(10) ** -figures for figures in (40, 80)]
            far, close = [with_figures(form, x) for x in ways]
            if answer.startswith("number "):
                self.assertLess(abs(close - with_figures(answer[7:])), Decimal(10) ** -50)
            else:
                self.assertGreater(close - far if answer == "up" else far - close, 5)


if __name__ == "__main__":
    unittest.main()
