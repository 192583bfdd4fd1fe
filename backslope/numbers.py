"""Numbers: tuples (top, bottom) of whole numbers in lowest terms, the bottom above nought."""

from backslope.wholes import common_divisor, raised


def ratio(top, bottom):
    shared = common_divisor(top, bottom)
    if bottom < 0:
        shared = -shared
    return (top // shared, bottom // shared)


def plus(one, other):
    return ratio(one[0] * other[1] + other[0] * one[1], one[1] * other[1])


def minus(one, other):
    return ratio(one[0] * other[1] - other[0] * one[1], one[1] * other[1])


def times(one, other):
    return ratio(one[0] * other[0], one[1] * other[1])


def over(one, other):
    return ratio(one[0] * other[1], one[1] * other[0])


def before(one, other):
    return one[0] * other[1] < other[0] * one[1]


def size_of(one):
    return (abs(one[0]), one[1])


def floor_of(one):
    return one[0] // one[1]


# Powers of a top and a bottom in lowest terms are in lowest terms again, so nothing is sought here.
def power(one, n):
    top = raised(one[0], abs(n))
    bottom = raised(one[1], abs(n))
    if n >= 0:
        return (top, bottom)
    if top < 0:
        return (-bottom, -top)
    return (bottom, top)
