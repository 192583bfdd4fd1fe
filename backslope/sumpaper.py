"""Checks what is told of sums: a sum in closed form, or a paper which shows that there is none."""

from backslope.fractions import f_minus, f_moved, f_number, f_times, fraction
from backslope.parts import meets
from backslope.polys import cleared, p_moved, p_times
from backslope.sums import columns_of, top_of
from backslope.wholes import dot


def shows_sum(r, s):
    return f_minus(f_times(f_moved(s, (1, 1)), r), s) == f_number((1, 1))


def shows_no_sum(r, paper):
    a = paper[0]
    b = paper[1]
    c = paper[2]
    return shows_steps(r, a, b, c) and shows_weights(a, b, c, paper[3])


def shows_steps(r, a, b, c):
    if a == () or b == () or c == ():
        return False
    if fraction(p_times(a, p_moved(c, (1, 1))), p_times(b, c)) != r:
        return False
    return all([h < 0 for h in meets(a, b)])


# Whether the weights tell c from all that polynomials of degree top_of at most come to. However great that is: from
# as many as there are weights on, the sum for i is a polynomial in i, of lesser degree than there are weights. So it
# is always nought where it is at as many places.
def shows_weights(a, b, c, weights):
    if not weighs(weights, c):
        return False
    top = top_of(a, b, c)
    most = -1 if top is None else min(top, 2 * len(weights) - 1)
    return not any([weighs(weights, P) for P in columns_of(a, b, most)])


def weighs(weights, P):
    return dot(cleared(weights)[0], cleared(P)[0]) != 0
