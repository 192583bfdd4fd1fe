"""The way back from a slope: a form that has it, or a paper which shows that there is none."""

from backslope.fractions import f_plus, f_poly, fraction, quotient
from backslope.numbers import over
from backslope.parts import least_over, made_of
from backslope.places import rational_roots
from backslope.polys import common, degree, p_minus, p_scaled, p_slope, p_split, p_times, poly, x_less, x_to


# The bottom is spare * simple, spare with each factor once less often. What is looked for is B over spare, and A over
# simple, of lesser degrees above: B's and A's numbers are the one solution of as many equations.
def hermite(f):
    whole = p_split(f[0], f[1])
    spare = common(f[1], p_slope(f[1]))
    simple = quotient(f[1], spare)
    found = list(made_of(columns_for(spare, simple), whole[1])[1])
    B = poly(found[:degree(spare)])
    rest = fraction(poly(found[degree(spare):]), simple)
    return (f_plus(f_poly(risen(whole[0])), fraction(B, spare)), rest[0], rest[1])


# What the slope of x ^ i over spare, and x ^ i over simple, come to above the whole bottom.
def columns_for(spare, simple):
    turn = quotient(p_times(p_slope(spare), simple), spare)
    columns = []
    for i in range(degree(spare)):
        columns.append(p_minus(p_times(p_slope(x_to(i)), simple), p_times(x_to(i), turn)))
    for i in range(degree(simple)):
        columns.append(p_times(x_to(i), spare))
    return columns


# A polynomial whose slope is P.
def risen(P):
    return poly([(0, 1)] + [over(number, (place, 1)) for place, number in enumerate(P, start=1)])


def residue_parts(A, D):
    slope = p_slope(D)
    return parts_at(A, slope, D, rational_roots(residue_least(A, slope, D)))


# The polynomial of all residues at D's places, each once. The slope is that of the whole bottom below A, in which D's
# factors stand once: so the residue is A over the slope there.
def residue_least(A, slope, D):
    return least_over(A, slope, D) if degree(D) > 0 else ((1, 1),)


def parts_at(A, slope, D, residues):
    rows = []
    left = D
    for c in residues:
        v = common(D, p_minus(A, p_scaled(slope, c)))
        rows.append((c, v))
        left = quotient(left, v)
    return (tuple(rows), left)


# Here m is nought at each of these places, once.
def without_places(m, places):
    for c in places:
        m = quotient(m, x_less(c))
    return m


def back(f):
    ends = hermite(f)
    slope = p_slope(ends[2])
    m = residue_least(ends[1], slope, ends[2])
    residues = rational_roots(m)
    parts = parts_at(ends[1], slope, ends[2], residues)
    if degree(parts[1]) == 0:
        return ("told", (ends[0], parts[0]))
    # The residues at the places that are left are no numbers, and just they are roots of what is left of m.
    return ("none", ends + (parts[1], without_places(m, residues)))
