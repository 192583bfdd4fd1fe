"""Whether two sums of a fraction and logarithms differ by a number alone, or a place where their slopes are unlike."""

from backslope.forms import settled
from backslope.fractions import f_at, f_minus, f_plus, f_slope, is_number
from backslope.lognumbers import settled_number
from backslope.numbers import minus, plus
from backslope.polys import number_of, p_scaled, p_slope
from backslope.texts import NOUGHT


def alike(one, other):
    turned = (f_minus(NOUGHT, other[0]), [(minus((0, 1), c), P) for c, P in other[1]])
    told = settled(f_plus(one[0], turned[0]), list(one[1]) + turned[1])
    R = told[0][0]
    if is_number(R) and told[0][1] == ():
        return ("alike", settled_number(number_of(R[0], 0), list(told[1])))
    return ("place", place_unlike(slopes_of(one) + slopes_of(turned)))


# What the slope is the sum of. Their sum as one fraction would have far longer numbers than its worths need.
def slopes_of(one):
    return [f_slope(one[0])] + [(p_scaled(p_slope(P), c), P) for c, P in one[1]]


# The sum isn't nought everywhere, so neither it nor a bottom is so at more than some places.
def place_unlike(slopes):
    n = 0
    while sum_at(slopes, (n, 1)) in (None, (0, 1)):
        n += 1
    return (n, 1)


def sum_at(slopes, place):
    total = (0, 1)
    for slope in slopes:
        worth = f_at(slope, place)
        if worth is None:
            return None
        total = plus(total, worth)
    return total
