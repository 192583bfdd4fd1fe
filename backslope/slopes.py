"""Equations of slopes: the fractions y with y' + f y = g, of fractions f and g."""

from backslope.back import back, parts_at, residue_least, without_places
from backslope.errors import TooGreat
from backslope.fractions import f_minus, f_poly, f_times, fraction, quotient
from backslope.numbers import minus, over
from backslope.parts import made_of, simple_parts
from backslope.places import rational_roots
from backslope.polys import common, degree, p_plus, p_power, p_slope, p_times, poly, x_to

MOST_RESIDUE = 24
MOST_TOP = 30


# At a place where f has a simple pole, a pole of y may be of the order that f's residue is there, whatever g is. At all
# others g's own poles tell how great y's can be.
def hold_of(f, g):
    slope = p_slope(f[1])
    simple = simple_factors(f[1])
    m = residue_least(f[0], slope, simple)
    residues = [c for c in rational_roots(m) if is_whole_above(c)]
    parts = parts_at(f[0], slope, simple, residues)
    rows = [(c[0], v) for c, v in parts[0]]
    return (tuple(rows), parts[1], without_places(m, residues) if degree(parts[1]) > 0 else ())


# The product of the factors that aren't double.
def simple_factors(P):
    parts = simple_parts(P)
    return parts[0] if parts else ((1, 1),)


def is_whole_above(c):
    return c[0] > 0 and c[1] == 1


def bottom_of(g, rows):
    T = g[1]
    for rho, v in rows:
        T = p_times(T, p_power(v, rho))
    return T


# With z / T for y the equation is z' + h z = g T. Over the least bottom that both sides have, nothing is common to all.
def reduced(f, g, T):
    h = f_minus(f, fraction(p_slope(T), T))
    due = f_times(g, f_poly(T))
    shared = common(h[1], due[1])
    rest = quotient(due[1], shared)
    return (p_times(h[1], rest), p_times(h[0], rest), p_times(due[0], quotient(h[1], shared)))


def top_for(p, q, s):
    return top_by(p, q, degree(s))


def top_by(p, q, S):
    P = degree(p)
    Q = degree(q)
    if Q < P - 1:
        return max(S - P + 1, 0)
    top = S - Q
    if Q < P:
        other = over(minus((0, 1), q[-1]), p[-1]) if q else (0, 1)
        if other[1] == 1:
            top = max(top, other[0])
    return top if top >= 0 else None


# What x ^ i for z comes to, for each i up to the top one (none where that is None).
def columns_up_to(p, q, top):
    columns = []
    for i in range(0 if top is None else top + 1):
        columns.append(p_plus(p_times(p, p_slope(x_to(i))), p_times(q, x_to(i))))
    return columns


def solve(f, g):
    hold = hold_of(f, g)
    if hold[0] and hold[0][-1][0] > MOST_RESIDUE:
        raise TooGreat(f"a residue is above {MOST_RESIDUE}")
    T = bottom_of(g, hold[0])
    ends = reduced(f, g, T)
    top = top_for(ends[0], ends[1], ends[2])
    if top is not None and top > MOST_TOP:
        raise TooGreat(f"the degree may be above {MOST_TOP}")
    told = made_of(columns_up_to(ends[0], ends[1], top), ends[2])
    if told[0] == "none":
        return ("none", hold + (told[1],))
    y = over_bottom(told[1], T)
    # Two solutions differ by one for g nought, and of these there is one alone but for a number times it.
    if told[2]:
        return ("told", y, over_bottom(told[2][0], T), None)
    return ("told", y, None, back(f))


def over_bottom(numbers, T):
    return fraction(poly(list(numbers)), T)
