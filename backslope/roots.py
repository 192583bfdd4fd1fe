"""Roots: y with y ^ n = a x + b, by a kind (n, a, b); fractions and forms in y stand with y in the place of x."""

from backslope.back import back
from backslope.backpaper import shows_none
from backslope.forms import form_slope
from backslope.fractions import evened, f_over, f_plus, f_poly, f_times, fraction, quotient
from backslope.numbers import minus, over, power, times
from backslope.polys import common, p_minus, p_moved, p_plus, p_slope, p_times, poly, x_to
from backslope.texts import NOUGHT, X, read


def x_of(kind):
    return f_poly(in_root(kind, X[0]))


def read_root(kind, text):
    return read(text, [("x", x_of(kind)), ("y", X)])


# P with (y ^ n - b) / a for x.
def in_root(kind, P):
    return spread(p_moved(stretched(P, over((1, 1), kind[1])), minus((0, 1), kind[2])), kind[0])


# P with c x for x.
def stretched(P, c):
    return poly([times(number, power(c, place)) for place, number in enumerate(P)])


# P with y ^ n for x.
def spread(P, n):
    row = []
    for number in P:
        row.extend([number] + [(0, 1)] * (n - 1))
    return poly(row)


# The way back from spread, of every nth number from the one at i on.
def strand(P, n, i):
    return poly(list(P[i::n]))


def joined(kind, parts):
    g = NOUGHT
    for i, part in enumerate(parts):
        bottom = in_root(kind, part[1])
        g = f_plus(g, f_times(f_poly(x_to(i)), evened(in_root(kind, part[0]), bottom)))
    return g


# With a bottom in y ^ n alone, the top's strands over it are the parts.
def parted(kind, g):
    n = kind[0]
    kept = strands_common(g[1], n)
    rest = quotient(g[1], spread(kept, n))
    beside = other_roots(rest, n)
    bottom = p_times(kept, strand(p_times(rest, beside), n, 0))
    top = p_times(g[0], beside)
    return tuple([in_place(kind, fraction(strand(top, n, i), bottom)) for i in range(n)])


# The factor that is in y ^ n alone: it can stay as it is, and what is left is mostly of low degree.
def strands_common(Q, n):
    kept = ()
    for i in range(n):
        kept = common(kept, strand(Q, n, i))
    return kept


# The product of Q with each other root of y ^ n for y: times Q it has y ^ n alone.
def other_roots(Q, n):
    if n == 2:
        return stretched(Q, (-1, 1))
    if n == 3:
        return other_two(Q)
    turned = stretched(Q, (-1, 1))
    squares = strand(p_times(Q, turned), 2, 0)
    return p_times(turned, spread(stretched(squares, (-1, 1)), 2))


# With Q = A + B + C, by the rests of the exponents by 3, it is A A + B B + C C - A B - A C - B C.
def other_two(Q):
    pieces = [p_times(x_to(i), spread(strand(Q, 3, i), 3)) for i in range(3)]
    found = ()
    for i in range(3):
        found = p_plus(found, p_times(pieces[i], p_minus(pieces[i], pieces[i - 1])))
    return found


# F with a x + b for x.
def in_place(kind, F):
    moved = [stretched(p_moved(P, kind[2]), kind[1]) for P in F]
    return evened(moved[0], moved[1])


def root_slope(kind, form):
    return f_over(form_slope(form), slope_of_x(kind))


# The slope of x by y.
def slope_of_x(kind):
    return f_poly(p_slope(x_of(kind)[0]))


def root_back(kind, g):
    return back(f_times(g, slope_of_x(kind)))


def root_shows(kind, g, paper):
    return shows_none(f_times(g, slope_of_x(kind)), paper)
