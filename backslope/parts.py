"""Parts of a polynomial by how often they stand in it, reckoning modulo a polynomial, and which parts meet if moved."""

from backslope.linear import crossed, guessed, solved
from backslope.places import rational_roots
from backslope.polys import (
    bezout, cleared, common, degree, number_of, p_minus, p_plus, p_scaled, p_split, p_times, poly, uncleared, x_less)
from backslope.wholes import (
    FIRST_PRIME, dot, euclid_modulo, inverse_modulo, inverse_rest, lifted, monic_modulo, nearest, other_prime,
    prime_after, reduced_modulo, rest_modulo, root_exponent, row_common, row_less, row_moved, row_over, row_shortened,
    row_slope, row_times, row_trimmed, simple_row, split_modulo)


def simple_parts(P):
    row = row_shortened(cleared(P)[0])
    # All factors, each once less often than in the row.
    spare = row_common(row, row_slope(row))
    left = row_over(row, spare)
    parts = []
    while len(left) > 1:
        kept = row_common(left, spare)
        parts.append(made_monic(row_over(left, kept)))
        left = kept
        spare = row_over(spare, kept)
    return parts


def made_monic(row):
    return uncleared(row, row[-1])


def radical(P):
    return made_monic(simple_row(cleared(P)[0]))


def inverse(P, W):
    rest = p_split(P, W)[1]
    told = bezout(rest, W)
    return p_split(told[1], W)[1] if degree(told[0]) == 0 else None


def put_into(m, P, W):
    rest = p_split(P, W)[1]
    value = ()
    for number in reversed(m):
        value = p_split(p_plus(p_times(value, rest), poly([number])), W)[1]
    return value


# Its numbers, the last one left out, are how P's next power is made of the lesser ones.
def least(P, W):
    rest = p_split(P, W)[1]
    powers = [((1, 1),)]
    many = least_rank(cleared(rest)[0], cleared(W)[0])
    told = ("none",)
    while told[0] == "none":
        while len(powers) <= many:
            powers.append(p_split(p_times(powers[-1], rest), W)[1])
        told = made_of(powers[:many], p_minus((), powers[many]))
        many += 1
    return poly(list(told[1]) + [(1, 1)])


# How many times each of the columns, which are polynomials, makes up P, as solved tells it: an equation for each power,
# one at least, as without any there would be no unknowns.
def made_of(columns, P):
    many = max([1] + [len(column) for column in columns + [P]])
    rows = [numbers_at(columns, place) for place in range(many)]
    return solved(rows, [number_of(P, place) for place in range(many)])


def numbers_at(columns, place):
    return [number_of(P, place) for P in columns]


# How many powers in a row are not made of one another modulo a prime, and so over the numbers too.
def least_rank(row, divisor):
    prime = FIRST_PRIME
    while divisor[-1] % prime == 0:
        prime = other_prime(prime)
    modulus = monic_modulo(divisor, prime)
    width = len(divisor) - 1
    powers = []
    power = [1]
    for step in range(width):
        powers.append(power + [0] * (width - len(power)))
        power = rest_modulo(row_times(power, row), modulus, prime)
    return len(reduced_modulo(powers, prime)[2])


# least(P * inverse(Q, W), W), where Q and W have no common factor and W has no double one. The numbers of that inverse
# would be far longer than the outcome's, so it is only reckoned with modulo powers of a prime.
def least_over(P, Q, W):
    prime = FIRST_PRIME
    found = least_by_prime(P, Q, W, prime)
    while found is None:
        prime = other_prime(prime)
        found = least_by_prime(P, Q, W, prime)
    return found


# None where the prime doesn't tell. W has no double factor, so the least polynomial is nought just at the worths of P
# over Q at W's places, each once. Not all of them may be unlike modulo the prime: then it has more than are unlike
# there. With as many, and nought at P over Q, it is the least one.
def least_by_prime(P, Q, W, prime):
    if not is_fit(P, Q, W, prime):
        return None
    modulus = prime
    weight = inverse_rest(rests_of(Q, prime), rests_of(W, prime), prime)
    many = many_unlike(worths_modulo(P, weight, W, prime), prime)
    while True:
        guess = guessed(worths_modulo(P, weight, W, modulus)[:-1], modulus)
        if guess is not None:
            m = radical(uncleared(guess[0] + [guess[1]], guess[1]))
            if has_worths(m, P, Q, W):
                return m if degree(m) == many else None
        modulus *= modulus
        weight = inverse_lifted(weight, rests_of(Q, modulus), rests_of(W, modulus), modulus)


# Whether m, which has no double factor, is nought at the worths of P over Q at all places of W. Those that are numbers
# are soon tried one by one; mostly few places are left then.
def has_worths(m, P, Q, W):
    wild = m
    left = W
    for c in rational_roots(m):
        wild = p_split(wild, x_less(c))[0]
        left = p_split(left, common(left, p_minus(P, p_scaled(Q, c))))[0]
    return degree(left) == 0 or is_nought_over(wild, P, Q, left)


# Whether m(P over Q) is nought modulo W, where Q and W have no common factor. It is taken times Q to m's degree, and
# times whatever whole number spares the search for lowest terms: what is nought stays so, and what isn't too.
def is_nought_over(m, P, Q, W):
    divisor = cleared(W)[0]
    one = p_split(P, W)[1]
    both = cleared(one + p_split(Q, W)[1])[0]
    value = []
    scale = [1]
    for whole in reversed(cleared(m)[0]):
        value = row_less(rest_scaled(row_times(value, both[:len(one)]), divisor), 1, scale, -whole, 0)
        scale = rest_scaled(row_times(scale, both[len(one):]), divisor)
    return not any(value)


# The rest of a product of two rests, always as many times as great: the divisor's last number to the same power.
def rest_scaled(row, divisor):
    last = len(divisor) - 1
    left = row + [0] * (2 * last - 1 - len(row))
    while len(left) > last:
        weight = left.pop()
        shift = len(left) - last
        left = [divisor[-1] * whole for whole in left]
        for place in range(last):
            left[shift + place] -= weight * divisor[place]
    return left


def is_fit(P, Q, W, prime):
    if cleared(P + Q + W)[1] % prime == 0:
        return False
    return len(euclid_modulo(rests_of(Q, prime), rests_of(W, prime), prime)) == 1


def rests_of(P, modulus):
    return [number[0] * inverse_modulo(number[1], modulus) % modulus for number in P]


def many_unlike(row, prime):
    return len(row) - len(euclid_modulo(row, row_slope(row), prime))


# From the inverse of a row modulo the root of this modulus to the one modulo the modulus itself.
def inverse_lifted(weight, row, divisor, modulus):
    spare = row_less([2], 1, rest_modulo(row_times(row, weight), divisor, modulus), 1, 0)
    return rest_modulo(row_times(weight, spare), divisor, modulus)


# The product of t less the worth of P times weight, for all places of W. It comes from the sums of the worths' powers.
def worths_modulo(P, weight, W, modulus):
    divisor = rests_of(W, modulus)
    row = rest_modulo(row_times(rests_of(P, modulus), weight), divisor, modulus)
    sums = sums_modulo(divisor, modulus)
    power = [1]
    found = []
    for step in range(degree(W)):
        power = rest_modulo(row_times(power, row), divisor, modulus)
        found.append(dot(power, sums) % modulus)
    return row_of_sums(found, modulus)


# The sums of the places' powers, from the power 0 on, by Newton's rule; row_of_sums is the way back.
def sums_modulo(divisor, modulus):
    last = len(divisor) - 1
    sums = []
    for step in range(1, last):
        beside = [divisor[last - place] * sums[step - 1 - place] for place in range(1, step)]
        sums.append(-(step * divisor[last - step] + sum(beside)) % modulus)
    return [last] + sums


def row_of_sums(sums, modulus):
    falling = [1]
    for step in range(1, len(sums) + 1):
        found = dot(falling, sums[step - 1::-1])
        falling.append(-found * inverse_modulo(step, modulus) % modulus)
    return falling[::-1]


# Each h is tried that is a likely one.
def meets(P, Q):
    one = simple_row(cleared(P)[0])
    other = simple_row(cleared(Q)[0])
    if len(one) == 1 or len(other) == 1:
        return []
    return [h for h in likely_meets(one, other) if len(row_common(one, row_moved(other, h))) > 1]


# Where factors over the numbers meet, so do factors of theirs modulo a power of a prime. There a factor of degree d
# that is moved by h has its number at d - 1 changed by d times h, which tells h where the power is great enough.
def likely_meets(one, other):
    prime = prime_after(max(len(one), len(other)))
    while not (stays_simple(one, prime) and stays_simple(other, prime)):
        prime = prime_after(prime)
    room = (1 << max(root_exponent(one), 0)) + (1 << max(root_exponent(other), 0))
    # Far above room, so that hardly any h is a likely one by chance.
    floor = room << 64
    moved = [lifted(other, factor, prime, floor) for factor in factors_modulo(other, prime)]
    likely = {}
    for factor in factors_modulo(one, prime):
        found = lifted(one, factor, prime, floor)
        part = inverse_modulo(len(factor) - 1, found[1])
        for row in [pair[0] for pair in moved if len(pair[0]) == len(factor)]:
            h = nearest((found[0][-2] - row[-2]) * part, found[1])
            if abs(h) < room:
                likely[h] = True
    return sorted(likely)


def stays_simple(row, prime):
    return row[-1] % prime != 0 and len(euclid_modulo(row, row_slope(row), prime)) == 1


# The monic factors modulo the prime, which can't be parted further there (by Berlekamp's way).
def factors_modulo(row, prime):
    factors = [monic_modulo(row, prime)]
    seeds = seeds_modulo(factors[0], prime)
    for seed in seeds:
        if len(factors) < len(seeds):
            pieces = []
            for factor in factors:
                pieces.extend(pieces_modulo(factor, seed, prime))
            factors = pieces
    return factors


# The rows v, none made of the others, with v ^ prime = v modulo the divisor: modulo each factor such a v leaves a
# whole number, and there are as many of them as factors.
def seeds_modulo(divisor, prime):
    width = len(divisor) - 1
    step = rest_modulo([0] * prime + [1], divisor, prime)
    power = [1]
    less = []
    for place in range(width):
        row = row_less(power, 1, [1], 1, place)
        less.append(row + [0] * (width - len(row)))
        power = rest_modulo(row_times(power, step), divisor, prime)
    reduced = reduced_modulo(crossed(less), prime)
    columns = [column for column in range(width) if column not in reduced[2]]
    return [seed_at(column, reduced, width) for column in columns]


def seed_at(column, reduced, width):
    row = [0] * width
    row[column] = 1
    for lead, equation in zip(reduced[2], reduced[0]):
        row[lead] = -equation[column]
    return row_trimmed(row)


def pieces_modulo(factor, seed, prime):
    pieces = []
    left = factor
    whole = 0
    while len(left) > 1:
        piece = euclid_modulo(left, row_less(seed, 1, [whole], 1, 0), prime)
        if len(piece) > 1:
            pieces.append(piece)
            left = split_modulo(left, piece, prime)[0]
        whole += 1
    return pieces
