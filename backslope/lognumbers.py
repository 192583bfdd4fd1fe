"""Log numbers: tuples (q, logs), a number q and pairs of numbers c and r, r above nought.

A log number means q and the sum of c times the logarithm of r.
"""

from backslope.numbers import before, minus, plus, ratio, times
from backslope.wholes import common_divisor

FIRST_BITS = 64


def settled_number(q, rows):
    pieces = [(c, r[0]) for c, r in rows] + [(times(c, (-1, 1)), r[1]) for c, r in rows]
    found = sorted(without_common(pieces), key=lambda piece: piece[1])
    return (q, tuple([(c, (whole, 1)) for c, whole in found]))


# What two wholes have in common becomes a piece by itself, with the sum of both numbers.
def without_common(pieces):
    waiting = list(pieces)
    found = []
    while waiting:
        piece = waiting.pop()
        if piece[0][0] != 0 and piece[1] > 1:
            met = [other for other in found if common_divisor(piece[1], other[1]) > 1]
            if met:
                found.remove(met[0])
                waiting.extend(pieces_of_two(piece, met[0]))
            else:
                found.append(piece)
    return found


def pieces_of_two(one, other):
    shared = common_divisor(one[1], other[1])
    return [(one[0], one[1] // shared), (other[0], other[1] // shared), (plus(one[0], other[0]), shared)]


def n_plus(one, other):
    return settled_number(plus(one[0], other[0]), list(one[1]) + list(other[1]))


def n_scaled(one, c):
    return settled_number(times(one[0], c), [(times(e, c), r) for e, r in one[1]])


# Where it isn't nought, some width tells on which side of nought it lies.
def sign_of(one):
    n = settled_number(one[0], list(one[1]))
    if n == ((0, 1), ()):
        return 0
    bits = FIRST_BITS
    ends = ends_of(n, bits)
    while ends[0][0] <= 0 and ends[1][0] >= 0:
        bits *= 2
        ends = ends_of(n, bits)
    return 1 if ends[0][0] > 0 else -1


def held(one, width):
    n = settled_number(one[0], list(one[1]))
    bits = FIRST_BITS
    ends = ends_of(n, bits)
    while before(width, minus(ends[1], ends[0])):
        bits *= 2
        ends = ends_of(n, bits)
    return ends


# Two numbers that the worth of a settled log number lies between, the nearer the more bits.
def ends_of(n, bits):
    low = n[0]
    high = n[0]
    for c, r in n[1]:
        ends = [times(c, ratio(end, 1 << bits)) for end in log_ends(r[0], bits)]
        if c[0] < 0:
            ends = ends[::-1]
        low = plus(low, ends[0])
        high = plus(high, ends[1])
    return (low, high)


# Two wholes that the logarithm of a whole number, times 2 ^ bits, lies between.
def log_ends(whole, bits):
    exponent = whole.bit_length() - 1
    scale = 1 << exponent
    rest = series_ends(whole - scale, whole + scale, bits)
    two = series_ends(1, 3, bits)
    return (rest[0] + exponent * two[0], rest[1] + exponent * two[1])


# With t for top over bottom, a third at most, log((1 + t) / (1 - t)) is twice the sum of t ^ n / n for all odd n.
def series_ends(top, bottom, bits):
    power = (top << bits) // bottom
    square = power * power >> bits
    total = 0
    n = 1
    while power > 0:
        total += power // n
        power = power * square >> bits
        n += 2
    # Each term has come out too low by less than 2, and all that come behind the last one are less than 2 together.
    return (2 * total, 2 * (total + n + 1))
