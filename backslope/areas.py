"""Areas between a fraction and nought, from one place to another, and holes on the way."""

from backslope.back import back
from backslope.errors import Hole
from backslope.limits import value_at
from backslope.lognumbers import n_plus, n_scaled
from backslope.numbers import before
from backslope.places import count_between
from backslope.polys import p_at


def holes(f, low, high):
    many = 1 if p_at(f[1], low) == (0, 1) else 0
    return many + count_between(f[1], low, high) if before(low, high) else many


# The form has no poles but f's, so without holes it has a worth at both ends.
def area(f, low, high):
    many = holes(f, high, low) if before(high, low) else holes(f, low, high)
    if many > 0:
        raise Hole(many)
    told = back(f)
    if told[0] == "none":
        return told
    start = value_at(told[1], low)
    return ("told", n_plus(value_at(told[1], high), n_scaled(start, (-1, 1))))
