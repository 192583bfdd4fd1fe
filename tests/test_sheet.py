import re
import unittest
from random import Random

from backslope.forms import settled
from backslope.fractions import f_number, fraction
from backslope.lognumbers import settled_number
from backslope.polys import p_power
from backslope.sheet import show_form, show_log_number
from backslope.texts import read_x, show, show_number, show_poly
from samples import CIRCLE, HALF, NOUGHT, ONE, UNIT, X, ZERO, drawn_number, drawn_poly, line, numbers, product, whole

LOG = re.compile(r"([0-9]+(?:/[0-9]+)?)\*log\(([^()]*)\)")


def logs_of(text):
    """The pairs of numbers and texts in the logarithms of a text, and what stands ahead of them."""
    found = LOG.findall(text)
    joints = LOG.split(text)[0::3]
    signs = [-1 if joint.strip().endswith("-") else 1 for joint in joints[:-1]]
    return joints, [(sign, size, inner) for sign, (size, inner) in zip(signs, found)]


class Forms(unittest.TestCase):
    def test_ordinary_ones(self):
        for form, asked in (
                ((ZERO, ()), "0"), ((f_number((-2, 3)), ()), "-2/3"), (((X, UNIT), ()), "x"),
                (((whole([-1, 1]), UNIT), ()), "x - 1"), (((UNIT, X), ()), "(1)/(x)"),
                (((whole([-1]), CIRCLE), ()), "(-1)/(x^2 + 1)"),
                ((ZERO, ((ONE, X),)), "1*log(x)"), ((ZERO, (((-1, 1), X),)), "-1*log(x)"),
                ((ZERO, ((HALF, X),)), "1/2*log(x)"), ((ZERO, (((-3, 2), X),)), "-3/2*log(x)"),
                ((ZERO, (((-1, 1), X), (ONE, line(1)))), "-1*log(x) + 1*log(x - 1)"),
                ((ZERO, (((-2, 1), X), ((-1, 2), line(1)))), "-2*log(x) - 1/2*log(x - 1)"),
                ((ZERO, ((ONE, X), ((7, 3), CIRCLE))), "1*log(x) + 7/3*log(x^2 + 1)"),
                (((X, UNIT), ((ONE, X),)), "x + 1*log(x)"), (((X, UNIT), (((-1, 1), X),)), "x - 1*log(x)"),
                ((f_number((-1, 1)), (((-1, 2), ((-1, 2), ONE)), (ONE, X))), "-1 - 1/2*log(x - 1/2) + 1*log(x)"),
                (((UNIT, X), (((2, 1), line(-3)),)), "(1)/(x) + 2*log(x + 3)"),
                (((((-3, 2), ONE, (-1, 7)), p_power(X, 2)), (((-5, 1), CIRCLE),)),
                 "(-1/7*x^2 + x - 3/2)/(x^2) - 5*log(x^2 + 1)")):
            self.assertEqual(show_form(form), asked)
            self.assertIs(type(show_form(form)), str)

    def test_across(self):
        chance = Random(351)
        factors = [X, line(1), line(-3, 2), CIRCLE, whole([1, 1, 0, 1]), ((3, 7), (-1, 2), ONE)]
        for time in range(60):
            R = fraction(drawn_poly(chance, time % 4 - 1, 2), product(chance.sample(factors, time % 3)))
            form = settled(R, [(drawn_number(chance, 1 + time % 2), P) for P in chance.sample(factors, time % 5)])[0]
            text = show_form(form)
            joints, logs = logs_of(text)
            asked = [(1 if c[0] > 0 else -1, show_number((abs(c[0]), c[1])), show_poly(v)) for c, v in form[1]]
            self.assertEqual(logs, asked)
            self.assertEqual(joints[-1] if asked else "", "")
            for joint in joints[1:-1]:
                self.assertIn(joint, (" + ", " - "))
            if not asked:
                self.assertEqual(text, show(R))
            elif R == ZERO:
                self.assertEqual(joints[0], "" if form[1][0][0][0] > 0 else "-")
            else:
                self.assertEqual(joints[0], show(R) + (" + " if form[1][0][0][0] > 0 else " - "))
                self.assertEqual(read_x(joints[0][:-3]), R)

    def test_nought_is_left_out_only_beside_logarithms(self):
        self.assertEqual(show_form((ZERO, ())), "0")
        self.assertNotIn("0", show_form((ZERO, ((ONE, X),))))
        self.assertEqual(show_form((f_number((10, 1)), ((ONE, X),))), "10 + 1*log(x)")

    def test_great_numbers(self):
        c = (-(10 ** 5000), 10 ** 4999 + 1)
        size = "1" + "0" * 5000 + "/1" + "0" * 4998 + "1"
        self.assertEqual(show_form((ZERO, ((c, X),))), "-" + size + "*log(x)")
        self.assertEqual(show_form((f_number(c), ((ONE, X),))), "-" + size + " + 1*log(x)")


class LogNumbers(unittest.TestCase):
    def test_ordinary_ones(self):
        for n, asked in (
                ((NOUGHT, ()), "0"), (((-2, 3), ()), "-2/3"), ((NOUGHT, ((ONE, (2, 1)),)), "1*log(2)"),
                ((NOUGHT, (((-1, 1), (2, 1)),)), "-1*log(2)"), ((HALF, ((ONE, (2, 1)),)), "1/2 + 1*log(2)"),
                (((-1, 2), (((-3, 7), (2, 1)), (ONE, (15, 1)))), "-1/2 - 3/7*log(2) + 1*log(15)"),
                ((NOUGHT, (((-3, 7), (2, 1)), ((-1, 1), (15, 1)))), "-3/7*log(2) - 1*log(15)"),
                ((NOUGHT, (((3, 7), (2, 1)), ((-1, 1), (15, 1)))), "3/7*log(2) - 1*log(15)"),
                # Ones that aren't settled.
                ((NOUGHT, ((ONE, (2, 3)),)), "1*log(2/3)"),
                ((ONE, (((-1, 1), ONE), ((2, 1), HALF))), "1 - 1*log(1) + 2*log(1/2)")):
            self.assertEqual(show_log_number(n), asked)
            self.assertIs(type(show_log_number(n)), str)

    def test_numbers(self):
        for c in numbers():
            self.assertEqual(show_log_number((c, ())), show_number(c))

    def test_across(self):
        chance = Random(352)
        for time in range(60):
            q = drawn_number(chance, 2) if time % 3 else NOUGHT
            n = settled_number(q, [(drawn_number(chance, 2), (chance.randrange(1, 99), 1)) for row in range(time % 5)])
            joints, logs = logs_of(show_log_number(n))
            self.assertEqual(logs, [(1 if c[0] > 0 else -1, show_number((abs(c[0]), c[1])), str(r[0])) for c, r in n[1]])
            if not logs:
                self.assertEqual(joints[0], show_number(q))
            elif q == NOUGHT:
                self.assertEqual(joints[0], "" if logs[0][0] > 0 else "-")
            else:
                self.assertEqual(joints[0], show_number(q) + (" + " if logs[0][0] > 0 else " - "))

    def test_great_numbers(self):
        n = ((10 ** 5000, 1), (((-1, 10 ** 5000), (10 ** 5000 + 7, 1)),))
        great = "1" + "0" * 5000
        self.assertEqual(show_log_number(n), great + " - 1/" + great + "*log(1" + "0" * 4999 + "7)")


if __name__ == "__main__":
    unittest.main()
