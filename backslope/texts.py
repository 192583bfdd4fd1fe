"""Fractions as texts: reading them, and writing them."""

from backslope.errors import NoText, Nought
from backslope.fractions import f_minus, f_number, f_over, f_plus, f_times
from backslope.numbers import size_of
from backslope.polys import degree, p_power
from backslope.wholes import raised

NOUGHT = ((), ((1, 1),))
X = (((0, 1), (1, 1)), ((1, 1),))
MOST_FIGURES = 12
MOST_POWER = 40
MOST_BRACKETS = 20
# Python refuses to write very long whole numbers at once, but none of so few figures.
FIGURES_AT_ONCE = 600


def read(text, letters):
    reader = Reader(text, letters)
    reader.expression()
    if reader.sign() != "":
        reader.refuse()
    return worth(reader.steps)


def read_x(text):
    return read(text, [("x", X)])


# Goes through the text once and notes what is to be reckoned, in which order, but reckons nothing: so a text that is
# none is refused whatever would come of it.
class Reader:
    def __init__(self, text, letters):
        self.text = text
        self.meanings = dict(letters)
        self.place = 0
        self.brackets = 0
        self.steps = []

    def refuse(self):
        place = self.place
        raise NoText(f"no expression, from the sign at {place} on")

    # The sign that comes here, behind all blanks; an empty text at the end.
    def sign(self):
        while self.here() == " ":
            self.place += 1
        return self.here()

    def here(self):
        return self.text[self.place:self.place + 1]

    def taken(self):
        sign = self.sign()
        self.place += 1
        return sign

    def expression(self):
        self.term()
        while self.sign() in ("+", "-"):
            sign = self.taken()
            self.term()
            self.steps.append((sign, None))

    def term(self):
        self.factor()
        while self.sign() in ("*", "/"):
            sign = self.taken()
            self.factor()
            self.steps.append((sign, None))

    def factor(self):
        turns = False
        while self.sign() == "-":
            self.place += 1
            turns = not turns
        self.atom()
        if self.sign() == "^":
            self.place += 1
            self.steps.append(("^", self.exponent()))
        if turns:
            self.steps.append(("turn", None))

    def atom(self):
        sign = self.sign()
        if sign == "(":
            self.bracket()
        elif sign in self.meanings:
            self.place += 1
            self.steps.append(("put", self.meanings[sign]))
        else:
            self.steps.append(("put", f_number((self.whole(MOST_FIGURES), 1))))

    def bracket(self):
        self.brackets += 1
        if self.brackets > MOST_BRACKETS:
            self.refuse()
        self.place += 1
        self.expression()
        if self.taken() != ")":
            self.refuse()
        self.brackets -= 1

    def exponent(self):
        self.sign()
        n = self.whole(len(str(MOST_POWER)))
        if n > MOST_POWER:
            self.refuse()
        return n

    def whole(self, most):
        start = self.place
        while self.here() != "" and self.here() in "0123456789":
            self.place += 1
        figures = self.text[start:self.place]
        if figures == "" or len(figures) > most or (figures[0] == "0" and figures != "0"):
            self.refuse()
        return int(figures)


def worth(steps):
    waiting = []
    for word, value in steps:
        if word == "put":
            waiting.append(value)
        elif word == "turn":
            waiting.append(f_minus(NOUGHT, waiting.pop()))
        elif word == "^":
            waiting.append(f_power(waiting.pop(), value))
        else:
            other = waiting.pop()
            waiting.append(reckoned(word, waiting.pop(), other))
    return waiting[0]


# Powers of what has nothing in common have nothing in common.
def f_power(F, n):
    return (p_power(F[0], n), p_power(F[1], n))


def reckoned(sign, F, G):
    if sign == "+":
        return f_plus(F, G)
    if sign == "-":
        return f_minus(F, G)
    if sign == "*":
        return f_times(F, G)
    if G == NOUGHT:
        raise Nought("something is divided by nought")
    return f_over(F, G)


def show_number(c):
    top = show_whole(c[0])
    return top if c[1] == 1 else top + "/" + show_whole(c[1])


def show_whole(whole):
    scale = raised(10, FIGURES_AT_ONCE)
    left = abs(whole)
    groups = []
    while left >= scale:
        groups.append(str(left % scale).zfill(FIGURES_AT_ONCE))
        left //= scale
    groups.append(str(left))
    return ("-" if whole < 0 else "") + "".join(reversed(groups))


def show_poly(P):
    text = ""
    for n in range(degree(P), -1, -1):
        if P[n][0] != 0:
            text += joint(P[n], text == "") + show_term(size_of(P[n]), n)
    return text if text != "" else "0"


def joint(number, is_first):
    if is_first:
        return "-" if number[0] < 0 else ""
    return " - " if number[0] < 0 else " + "


def show_term(size, n):
    if n == 0:
        return show_number(size)
    letter = "x" if n == 1 else f"x^{n}"
    return letter if size == (1, 1) else show_number(size) + "*" + letter


def show(F):
    top = show_poly(F[0])
    return top if F[1] == ((1, 1),) else "(" + top + ")/(" + show_poly(F[1]) + ")"
