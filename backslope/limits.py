"""Worths of forms at places, and where forms go near them."""

from backslope.fractions import f_at, quotient
from backslope.lognumbers import settled_number
from backslope.numbers import over, plus, size_of, times
from backslope.polys import degree, p_at, x_less
from backslope.texts import NOUGHT


def value_at(form, c):
    q = f_at(form[0], c)
    rows = [(e, size_of(p_at(v, c))) for e, v in form[1]]
    if q is None or any([r[0] == 0 for e, r in rows]):
        return None
    return settled_number(q, rows)


# All goes by the way from the place to x, or at an end by one over x: it comes near nought, above it or below.
def limit(form, place, side):
    lead = fraction_lead(form[0], place)
    if lead[0] < 0:
        is_turned = side == "below" and lead[0] % 2 == 1
        return ("up",) if (lead[1][0] > 0) != is_turned else ("down",)
    many = (0, 1)
    rows = []
    for c, v in form[1]:
        other = lead_of(v, place)
        many = plus(many, times(c, (other[0], 1)))
        rows.append((c, size_of(other[1])))
    # The logarithm of the way's size passes all bounds below.
    if many[0] != 0:
        return ("down",) if many[0] > 0 else ("up",)
    return ("number", settled_number(lead[1] if lead[0] == 0 else (0, 1), rows))


# The order n and the number such that P is like number times way ^ n there.
def lead_of(P, place):
    if place is None:
        return (-degree(P), P[-1])
    n = 0
    while p_at(P, place) == (0, 1):
        P = quotient(P, x_less(place))
        n += 1
    return (n, p_at(P, place))


def fraction_lead(R, place):
    if R == NOUGHT:
        return (0, (0, 1))
    top = lead_of(R[0], place)
    bottom = lead_of(R[1], place)
    return (top[0] - bottom[0], over(top[1], bottom[1]))
