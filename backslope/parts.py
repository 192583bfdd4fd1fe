"""Parts of a polynomial by how often they stand in it, reckoning modulo a polynomial, and which parts meet if moved."""

from backslope.linear import crossed, solved
from backslope.numbers import minus
from backslope.polys import bezout, cleared, degree, number_of, p_plus, p_split, p_times, poly, uncleared
from backslope.wholes import (
    FIRST_PRIME, euclid_modulo, inverse_modulo, lifted, monic_modulo, nearest, other_prime, prime_after,
    reduced_modulo, rest_modulo, root_exponent, row_common, row_less, row_moved, row_over, row_shortened, row_slope,
    row_times, row_trimmed, simple_row, split_modulo)


def simple_parts(P):
    row = row_shortened(cleared(P)[0])
    # All factors, each once less often than in the row.
    spare = row_common(row, row_slope(row))
    left = row_over(row, spare)
    parts = []
    while len(left) > 1:
        kept = row_common(left, spare)
        parts.append(made_monic(row_over(left, kept)))
        left = kept
        spare = row_over(spare, kept)
    return parts


def made_monic(row):
    return uncleared(row, row[-1])


def radical(P):
    return made_monic(simple_row(cleared(P)[0]))


def inverse(P, W):
    rest = p_split(P, W)[1]
    told = bezout(rest, W)
    return p_split(told[1], W)[1] if degree(told[0]) == 0 else None


def put_into(m, P, W):
    rest = p_split(P, W)[1]
    value = ()
    for number in reversed(m):
        value = p_split(p_plus(p_times(value, rest), poly([number])), W)[1]
    return value


# Its numbers, the last one left out, are how P's next power is made of the lesser ones.
def least(P, W):
    rest = p_split(P, W)[1]
    powers = [((1, 1),)]
    many = least_rank(cleared(rest)[0], cleared(W)[0])
    told = ("none",)
    while told[0] == "none":
        while len(powers) <= many:
            powers.append(p_split(p_times(powers[-1], rest), W)[1])
        rows = [numbers_at(powers[:many], place) for place in range(degree(W))]
        told = solved(rows, [minus((0, 1), number_of(powers[many], place)) for place in range(degree(W))])
        many += 1
    return poly(list(told[1]) + [(1, 1)])


def numbers_at(powers, place):
    return [number_of(P, place) for P in powers]


# How many powers in a row are not made of one another modulo a prime, and so over the numbers too.
def least_rank(row, divisor):
    prime = FIRST_PRIME
    while divisor[-1] % prime == 0:
        prime = other_prime(prime)
    modulus = monic_modulo(divisor, prime)
    width = len(divisor) - 1
    powers = []
    power = [1]
    for step in range(width):
        powers.append(power + [0] * (width - len(power)))
        power = rest_modulo(row_times(power, row), modulus, prime)
    return len(reduced_modulo(powers, prime)[2])


# Each h is tried that is a likely one.
def meets(P, Q):
    one = simple_row(cleared(P)[0])
    other = simple_row(cleared(Q)[0])
    if len(one) == 1 or len(other) == 1:
        return []
    return [h for h in likely_meets(one, other) if len(row_common(one, row_moved(other, h))) > 1]


# Where factors over the numbers meet, so do factors of theirs modulo a power of a prime. There a factor of degree d
# that is moved by h has its number at d - 1 changed by d times h, which tells h where the power is great enough.
def likely_meets(one, other):
    prime = prime_after(max(len(one), len(other)))
    while not (stays_simple(one, prime) and stays_simple(other, prime)):
        prime = prime_after(prime)
    room = (1 << max(root_exponent(one), 0)) + (1 << max(root_exponent(other), 0))
    # Far above room, so that hardly any h is a likely one by chance.
    floor = room << 64
    moved = [lifted(other, factor, prime, floor) for factor in factors_modulo(other, prime)]
    likely = {}
    for factor in factors_modulo(one, prime):
        found = lifted(one, factor, prime, floor)
        part = inverse_modulo(len(factor) - 1, found[1])
        for row in [pair[0] for pair in moved if len(pair[0]) == len(factor)]:
            h = nearest((found[0][-2] - row[-2]) * part, found[1])
            if abs(h) < room:
                likely[h] = True
    return sorted(likely)


def stays_simple(row, prime):
    return row[-1] % prime != 0 and len(euclid_modulo(row, row_slope(row), prime)) == 1


# The monic factors modulo the prime, which can't be parted further there (by Berlekamp's way).
def factors_modulo(row, prime):
    factors = [monic_modulo(row, prime)]
    seeds = seeds_modulo(factors[0], prime)
    for seed in seeds:
        if len(factors) < len(seeds):
            pieces = []
            for factor in factors:
                pieces.extend(pieces_modulo(factor, seed, prime))
            factors = pieces
    return factors


# The rows v, none made of the others, with v ^ prime = v modulo the divisor: modulo each factor such a v leaves a
# whole number, and there are as many of them as factors.
def seeds_modulo(divisor, prime):
    width = len(divisor) - 1
    step = rest_modulo([0] * prime + [1], divisor, prime)
    power = [1]
    less = []
    for place in range(width):
        row = row_less(power, 1, [1], 1, place)
        less.append(row + [0] * (width - len(row)))
        power = rest_modulo(row_times(power, step), divisor, prime)
    reduced = reduced_modulo(crossed(less), prime)
    columns = [column for column in range(width) if column not in reduced[2]]
    return [seed_at(column, reduced, width) for column in columns]


def seed_at(column, reduced, width):
    row = [0] * width
    row[column] = 1
    for lead, equation in zip(reduced[2], reduced[0]):
        row[lead] = -equation[column]
    return row_trimmed(row)


def pieces_modulo(factor, seed, prime):
    pieces = []
    left = factor
    whole = 0
    while len(left) > 1:
        piece = euclid_modulo(left, row_less(seed, 1, [whole], 1, 0), prime)
        if len(piece) > 1:
            pieces.append(piece)
            left = split_modulo(left, piece, prime)[0]
        whole += 1
    return pieces
