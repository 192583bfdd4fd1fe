"""Polynomials: tuples of numbers, that of x to the 0 first, the last one not nought; () is nought."""

from backslope.numbers import minus, over, plus, ratio, times
from backslope.wholes import (
    common_divisor, content, raised, row_common, row_less, row_moved, row_parted, row_power, row_times, strand_euclid)


def poly(row):
    many = len(row)
    while many > 0 and row[many - 1][0] == 0:
        many -= 1
    return tuple(row[:many])


def degree(P):
    return len(P) - 1


# A row of whole numbers over one bottom, which is faster to reckon with than many fractions.
def cleared(P):
    bottom = 1
    for number in P:
        bottom *= number[1] // common_divisor(bottom, number[1])
    return ([number[0] * (bottom // number[1]) for number in P], bottom)


def uncleared(row, bottom):
    return poly([ratio(whole, bottom) for whole in row])


def number_of(P, place):
    return P[place] if place < len(P) else (0, 1)


def x_to(i):
    return ((0, 1),) * i + ((1, 1),)


def x_less(c):
    return (minus((0, 1), c), (1, 1))


def p_plus(P, Q):
    return poly([plus(number_of(P, place), number_of(Q, place)) for place in range(max(len(P), len(Q)))])


def p_minus(P, Q):
    return poly([minus(number_of(P, place), number_of(Q, place)) for place in range(max(len(P), len(Q)))])


def p_times(P, Q):
    one = cleared(P)
    other = cleared(Q)
    return uncleared(row_times(one[0], other[0]), one[1] * other[1])


def p_scaled(P, c):
    return poly([times(number, c) for number in P])


def p_split(P, Q):
    row = cleared(P)
    divisor = cleared(Q)
    rest = row[0]
    bottom = row[1]
    lead = divisor[0][-1]
    quotient = [(0, 1)] * max(len(P) - len(Q) + 1, 0)
    while len(rest) >= len(Q):
        shift = len(rest) - len(Q)
        quotient[shift] = ratio(rest[-1] * divisor[1], bottom * lead)
        shared = common_divisor(rest[-1], lead)
        rest = row_less(rest, lead // shared, divisor[0], rest[-1] // shared, shift)
        bottom *= lead // shared
        # The rest goes through every further step, so it is kept short.
        spare = content(rest, bottom)
        rest = row_parted(rest, spare)
        bottom //= spare
    return (poly(quotient), uncleared(rest, bottom))


def monic(P):
    return tuple([over(number, P[-1]) for number in P])


def common(P, Q):
    row = row_common(cleared(P)[0], cleared(Q)[0])
    return uncleared(row, row[-1]) if row else ()


def bezout(P, Q):
    one = cleared(P)
    other = cleared(Q)
    strand = strand_euclid([one[0], [1], []], [other[0], [], [1]])
    row = strand[0]
    u = uncleared([one[1] * whole for whole in strand[1]], row[-1])
    v = uncleared([other[1] * whole for whole in strand[2]], row[-1])
    return (uncleared(row, row[-1]), u, v)


def p_slope(P):
    return tuple([times(P[place], (place, 1)) for place in range(1, len(P))])


def p_at(P, c):
    row = cleared(P)
    value = 0
    scale = 1
    for whole in reversed(row[0]):
        value = value * c[0] + whole * scale
        scale *= c[1]
    return ratio(value * c[1], row[1] * scale)


# With y for x times c's bottom, the move is by a whole number.
def p_moved(P, c):
    row = cleared(P)
    scales = [1]
    for number in P:
        scales.append(scales[-1] * c[1])
    last = len(P) - 1
    stretched = [whole * scales[last - place] for place, whole in enumerate(row[0])]
    moved = row_moved(stretched, c[0])
    return uncleared([whole * scales[place] for place, whole in enumerate(moved)], row[1] * scales[last])


def p_power(P, n):
    if n == 0:
        return ((1, 1),)
    row = cleared(P)
    low = 0
    while low < len(P) and row[0][low] == 0:
        low += 1
    if low == len(P):
        return ()
    return uncleared([0] * (low * n) + row_power(row[0][low:], n), raised(row[1], n))
