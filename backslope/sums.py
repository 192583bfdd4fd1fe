"""Sums in closed form of rows of terms, which are told by their step: each term is the step times the one ahead."""

from backslope.errors import TooGreat
from backslope.fractions import f_moved, f_over, f_times, fraction, quotient
from backslope.numbers import minus, over
from backslope.parts import made_of, meets
from backslope.polys import common, degree, p_minus, p_moved, p_times, poly, x_to

MOST_APART = 24
MOST_TOP = 30


# With s a factor of a, and s moved back by h one of b: s(k) / s(k - h) is c(k + 1) / c(k) for the product c of what
# lies between. The least h goes ahead, so that c isn't of a greater degree than need be.
def steps_of(r):
    apart = [h for h in meets(r[0], r[1]) if h >= 0]
    if apart and apart[-1] > MOST_APART:
        raise TooGreat(f"factors lie more than {MOST_APART} apart")
    a = r[0]
    b = r[1]
    c = ((1, 1),)
    for h in apart:
        s = common(a, p_moved(b, (h, 1)))
        a = quotient(a, s)
        b = quotient(b, p_moved(s, (-h, 1)))
        for step in range(1, h + 1):
            c = p_times(c, p_moved(s, (-step, 1)))
    return (a, b, c)


def top_of(a, b, c):
    B = p_moved(b, (-1, 1))
    n = degree(a)
    if n != degree(B) or a[-1] != B[-1]:
        top = degree(c) - max(n, degree(B))
    else:
        top = degree(c) - n + 1
        if n > 0:
            other = over(minus(B[n - 1], a[n - 1]), a[-1])
            if other[1] == 1:
                top = max(top, other[0])
    return top if top >= 0 else None


# Looked for is the polynomial f with a(k) f(k + 1) - b(k - 1) f(k) = c(k): b(k - 1) f(k) / c(k) is the sum then.
def summed(r):
    ends = steps_of(r)
    top = top_of(ends[0], ends[1], ends[2])
    if top is not None and top > MOST_TOP:
        raise TooGreat(f"the degree may be above {MOST_TOP}")
    told = made_of(columns_of(ends[0], ends[1], -1 if top is None else top), ends[2])
    if told[0] == "none":
        return ("none", ends + (told[1],))
    return ("told", fraction(p_times(p_moved(ends[1], (-1, 1)), poly(list(told[1]))), ends[2]))


# What k ^ i for f comes to, for each i up to the top one.
def columns_of(a, b, top):
    B = p_moved(b, (-1, 1))
    columns = []
    for i in range(top + 1):
        columns.append(p_minus(p_times(a, p_moved(x_to(i), (1, 1))), p_times(B, x_to(i))))
    return columns


def sum_of(F):
    told = summed(f_over(f_moved(F, (1, 1)), F))
    return ("told", f_times(told[1], F)) if told[0] == "told" else told
