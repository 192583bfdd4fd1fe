"""What the tests draw on: samples that are the same in every run, and checks of kinds."""

from decimal import Context, Decimal
from fractions import Fraction
from functools import cache
from math import gcd
from random import Random

from backslope.fractions import f_plus, f_slope, f_times, fraction
from backslope.linear import solved
from backslope.polys import common, degree, number_of, p_slope, p_times

NOUGHT = (0, 1)
ONE = (1, 1)
# Far more figures than the logarithms here are told apart by.
FIGURES = Context(prec=400)
# Two worths that are less apart than this are held for the same.
NEAR = Decimal(10) ** -250


def lowest(top, bottom):
    """The number of two whole numbers, by another way than the program's."""
    if bottom < 0:
        return lowest(-top, -bottom)
    return (top // gcd(top, bottom), bottom // gcd(top, bottom))


def drawn_number(chance, figures):
    top = chance.randrange(-(10 ** figures) + 1, 10 ** figures)
    return lowest(top, chance.randrange(1, 10 ** figures))


def drawn_whole(chance, figures):
    return (chance.randrange(-(10 ** figures) + 1, 10 ** figures), 1)


def drawn_poly(chance, degree, figures, draw=drawn_number):
    """A polynomial of just this degree; -1 is nought."""
    row = [draw(chance, figures) for place in range(degree + 1)]
    while row and row[-1] == NOUGHT:
        row[-1] = draw(chance, figures)
    return tuple(row)


def numbers():
    """Small ones, noughts and ones, ones of twelve figures and of sixty."""
    chance = Random(11)
    small = [lowest(top, bottom) for top in range(-3, 4) for bottom in range(1, 4)]
    many = sorted(set(small))
    for figures in (12, 60):
        many += [drawn_number(chance, figures) for time in range(4)]
        many += [drawn_whole(chance, figures) for time in range(2)]
    return many + [(10 ** 12 - 1, 10 ** 12 - 2), (-1, 10 ** 60), (10 ** 60, 1)]


def polys():
    """Nought, numbers, and polynomials of low degrees, some with noughts among their numbers."""
    chance = Random(12)
    many = [(), (ONE,), ((-2, 3),), (NOUGHT, ONE), (ONE, ONE), (NOUGHT, NOUGHT, (3, 1)), (ONE, NOUGHT, (-1, 2))]
    many += [drawn_poly(chance, degree, 1) for degree in range(6)]
    many += [drawn_poly(chance, degree, 12) for degree in range(4)]
    return many + [drawn_poly(chance, 3, 60)]


def whole(wholes):
    """The polynomial of a list of whole numbers, the last one not nought."""
    return tuple((top, 1) for top in wholes)


X = whole([0, 1])
UNIT = (ONE,)
ZERO = ((), UNIT)
HALF = (1, 2)
# Irreducible ones: without a real place, with two, and with one.
CIRCLE = whole([1, 0, 1])
SQUARE = whole([-2, 0, 1])
CUBE = whole([1, 1, 0, 1])


def is_number(value):
    if type(value) is not tuple or [type(part) for part in value] != [int, int]:
        return False
    return value[1] > 0 and gcd(value[0], value[1]) == 1


def is_poly(value):
    if type(value) is not tuple or not all(is_number(number) for number in value):
        return False
    return value == () or value[-1] != NOUGHT


def is_fraction(value):
    if type(value) is not tuple or len(value) != 2 or not all(is_poly(part) for part in value):
        return False
    top, bottom = value
    return bottom != () and bottom[-1] == ONE and common(top, bottom) == (ONE,)


def is_form(value):
    if type(value) is not tuple or len(value) != 2 or not is_fraction(value[0]) or not is_logs(value[1]):
        return False
    polynomials = [v for c, v in value[1]]
    apart = [common(v, w) for place, v in enumerate(polynomials) for w in polynomials[:place]]
    return all(shared == (ONE,) for shared in apart)


def is_logs(value):
    if type(value) is not tuple or any(type(pair) is not tuple or len(pair) != 2 for pair in value):
        return False
    for c, v in value:
        if not is_number(c) or c == NOUGHT or not is_poly(v) or degree(v) < 1 or v[-1] != ONE:
            return False
        if common(v, p_slope(v)) != (ONE,):
            return False
    numbers = [Fraction(*c) for c, v in value]
    return all(one < other for one, other in zip(numbers, numbers[1:]))


def is_settled_number(value):
    """Whether it is a log number, the r of which are whole, from 2 on, rising, no two with a common factor."""
    if type(value) is not tuple or len(value) != 2 or not is_number(value[0]) or type(value[1]) is not tuple:
        return False
    for pair in value[1]:
        if type(pair) is not tuple or len(pair) != 2 or not all(is_number(part) for part in pair) or pair[0] == NOUGHT:
            return False
    wholes = [r[0] for c, r in value[1]]
    if any(r[1] != 1 or r[0] < 2 for c, r in value[1]) or wholes != sorted(wholes):
        return False
    return all(gcd(one, other) == 1 for place, one in enumerate(wholes) for other in wholes[:place])


def decimal(number):
    return FIGURES.divide(Decimal(number[0]), Decimal(number[1]))


@cache
def log_of(number):
    return FIGURES.ln(Decimal(number))


def log_worth(q, rows):
    """q and the sum of c times log r, to some hundred figures, by another way than the program's."""
    total = decimal(q)
    for c, r in rows:
        less = FIGURES.subtract(log_of(r[0]), log_of(r[1]))
        total = FIGURES.add(total, FIGURES.multiply(decimal(c), less))
    return total


def near(one, other):
    """Whether two worths are the same but for the figures that are left out."""
    return abs(FIGURES.subtract(one, other)) < NEAR


def pair(worth):
    return (worth.numerator, worth.denominator)


def poly_at(P, x):
    """The worth of a polynomial, with another kind of numbers."""
    total = Fraction(0)
    for number in reversed(P):
        total = total * x + Fraction(*number)
    return total


def form_at(form, x):
    """The worth of R and the sum of c times log|P| at a place where it has one, to some hundred figures."""
    R, rows = form
    q = poly_at(R[0], x) / poly_at(R[1], x)
    return log_worth(pair(q), [(c, pair(abs(poly_at(P, x)))) for c, P in rows])


def drawn_fraction(chance, top, bottom, figures, draw=drawn_number):
    return fraction(drawn_poly(chance, top, figures, draw), drawn_poly(chance, bottom, figures, draw))


def line(top, bottom=1):
    """A polynomial of degree 1 that is nought at top over bottom alone."""
    return whole([-top, bottom])


def left_side(f, y):
    """y' + f y."""
    return f_plus(f_slope(y), f_times(f, y))


def product(factors):
    result = (ONE,)
    for factor in factors:
        result = p_times(result, factor)
    return result


def rank(rows):
    """The rank of rows of numbers, by another way than the program's."""
    left = [[Fraction(*number) for number in row] for row in rows]
    found = 0
    for column in range(len(left[0]) if left else 0):
        chosen = [place for place in range(found, len(left)) if left[place][column]]
        if chosen:
            left[found], left[chosen[0]] = left[chosen[0]], left[found]
            for place in range(found + 1, len(left)):
                factor = left[place][column] / left[found][column]
                if factor:
                    left[place] = [one - factor * other for one, other in zip(left[place], left[found])]
            found += 1
    return found


def weight_of(weights, P):
    """The weights' sum with P's numbers, what is missing on either side being nought."""
    return sum(Fraction(*weight) * Fraction(*number) for weight, number in zip(weights, P))


def weights_by(columns, due):
    """Weights whose sums with the polynomials are just these numbers, None where there are none; and those with noughts."""
    wide = max(len(P) for P in columns)
    told = solved([[number_of(P, place) for place in range(wide)] for P in columns], due)
    return (told[1], told[2]) if told[0] == "told" else (None, ())


def failing_weights(rest, one, kept):
    """Weights that neither the kept one nor the one goes out with, but all the rest; None where there are none."""
    for share in (ONE, (2, 1), (-1, 3)):
        found = weights_by(rest + [one, kept], [NOUGHT] * len(rest) + [share, ONE])[0]
        if found is not None:
            return found
    return None


def weighted(one, other):
    """The sum of the products of two rows of numbers."""
    total = sum((Fraction(*left) * Fraction(*right) for left, right in zip(one, other, strict=True)), Fraction(0))
    return (total.numerator, total.denominator)
