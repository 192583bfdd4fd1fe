"""Places where a polynomial is nought: the rational ones, and how many real ones there are between two numbers."""

from backslope.numbers import before, ratio
from backslope.polys import cleared, p_at
from backslope.wholes import (
    lifted, nearest, prime_after, rests_modulo, root_exponent, row_at_modulo, row_moved, row_over, row_slope,
    simple_row)


# Times the last number every rational root is whole, so that it can be told from what it leaves modulo a number that
# is great enough; and there it comes from a root modulo a prime. Nothing has to be parted into primes for that.
def rational_roots(P):
    row = simple_row(cleared(P)[0])
    prime = 2
    starts = starts_modulo(row, prime)
    while starts is None:
        prime = prime_after(prime)
        starts = starts_modulo(row, prime)
    floor = row[-1] << (max(root_exponent(row), 0) + 1)
    wholes = []
    for start in starts:
        found = lifted(row, [-start, 1], prime, floor)
        whole = nearest(-found[0][0] * row[-1], found[1])
        root = ratio(whole, row[-1])
        if row_over(row, [-root[0], root[1]]) is not None:
            wholes.append(whole)
    return [ratio(whole, row[-1]) for whole in sorted(wholes)]


# None where the prime divides the last number, or a root there is a double one, from which nothing can be lifted.
def starts_modulo(row, prime):
    if row[-1] % prime == 0:
        return None
    short = rests_modulo(row, prime)
    slope = row_slope(short)
    starts = []
    for start in range(prime):
        if row_at_modulo(short, start, prime) == 0:
            if row_at_modulo(slope, start, prime) == 0:
                return None
            starts.append(start)
    return starts


def count_between(P, low, high):
    row = simple_row(cleared(P)[0])
    exponent = root_exponent(row)
    bound = (1 << max(exponent, 0), 1 << max(-exponent, 0))
    below = (-bound[0], bound[1])
    start = below if low is None or before(low, below) else low
    end = bound if high is None or before(bound, high) else high
    if not before(start, end):
        return 0
    many = count_within(stretched(row, start, end))
    if high is not None and p_at(P, high) == (0, 1):
        many += 1
    return many


# The row with start for 0 and end for 1, times a whole number.
def stretched(row, start, end):
    bottom = start[1] * end[1]
    result = list(row)
    scale = 1
    for place in range(len(row) - 1, -1, -1):
        result[place] *= scale
        scale *= bottom
    result = row_moved(result, start[0] * end[1])
    scale = 1
    for place in range(len(row)):
        result[place] *= scale
        scale *= end[0] * start[1] - start[0] * end[1]
    return result


# How many places there are between 0 and 1, both left out. With 1 / (1 + y) for x, they are those above nought: where
# the signs change once there is one, where never there is none (Descartes); else the two halves are looked at.
def count_within(row):
    many = 0
    waiting = [row]
    while waiting:
        part = waiting.pop()
        changes = sign_changes(row_moved(part[::-1], 1))
        if changes == 1:
            many += 1
        if changes > 1:
            lower = halved(part)
            upper = row_moved(lower, 1)
            if upper[0] == 0:
                many += 1
            waiting.append(lower)
            waiting.append(upper)
    return many


def halved(row):
    last = len(row) - 1
    return [whole << (last - place) for place, whole in enumerate(row)]


def sign_changes(row):
    many = 0
    before_it = 0
    for whole in row:
        if whole != 0:
            if before_it * whole < 0:
                many += 1
            before_it = 1 if whole > 0 else -1
    return many
