"""Forms: tuples (R, logs), a fraction R and pairs of a number c and a polynomial v.

A form means R and the sum of c times the logarithm of v's size.
"""

from backslope.fractions import f_number, f_plus, f_slope, f_times, fraction, quotient
from backslope.numbers import plus, size_of, times
from backslope.parts import simple_parts
from backslope.polys import cleared, common, degree, p_scaled, p_slope, p_times


def settled(R, rows):
    logs = ()
    for c, P in rows:
        for many, part in enumerate(simple_parts(P), start=1):
            logs = logs_plus(logs, times(c, (many, 1)), part)
    heads = [(c, size_of(P[-1])) for c, P in rows]
    return ((R, logs), tuple(heads))


# What the part has in common with a v gets the sum of both numbers.
def logs_plus(logs, c, part):
    pieces = []
    left = part
    for number, v in logs:
        shared = common(left, v)
        left = quotient(left, shared)
        pieces.append((number, quotient(v, shared)))
        pieces.append((plus(number, c), shared))
    return gathered(pieces + [(c, left)])


# No two pieces have a common factor, so the product of those with the same number has no double one.
def gathered(pieces):
    found = {}
    for c, v in pieces:
        if c[0] != 0 and degree(v) > 0:
            found[c] = p_times(found.get(c, ((1, 1),)), v)
    # Over one bottom numbers stand as their tops do.
    tops = cleared(list(found))[0]
    return tuple([(c, found[c]) for top, c in sorted(zip(tops, list(found)))])


def form_slope(form):
    slope = f_slope(form[0])
    for c, v in form[1]:
        slope = f_plus(slope, fraction(p_scaled(p_slope(v), c), v))
    return slope


def form_plus(one, other):
    logs = one[1]
    for c, v in other[1]:
        logs = logs_plus(logs, c, v)
    return (f_plus(one[0], other[0]), logs)


def form_scaled(form, c):
    pieces = [(times(number, c), v) for number, v in form[1]]
    return (f_times(form[0], f_number(c)), gathered(pieces))
