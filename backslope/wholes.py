"""Whole numbers and rows of them: what numbers and polynomials are reckoned with.

A row is a list of whole numbers that stands for a polynomial, the one of x to the 0 first, the last one not nought.
Reckoning with a row over one bottom spares the search for lowest terms at every single step.
"""

# For each n here 2 ^ n - 1 is a prime.
EXPONENTS = (61, 127, 521, 1279, 4423, 9941, 21701, 44497)
# 2 ^ 127 - 1: its powers soon pass what is looked for, and it divides hardly anything that is met.
FIRST_PRIME = 170141183460469231731687303715884105727
# 2 ^ 31 - 1: from here on primes are small enough to be sought one after another.
SECOND_PRIME = 2147483647


def common_divisor(one, other):
    while other != 0:
        rest = one % other
        one = other
        other = rest
    return abs(one)


def raised(whole, n):
    result = 1
    square = whole
    while n > 0:
        if n % 2 == 1:
            result *= square
        n //= 2
        # The last square would be the greatest of all, and nothing needs it.
        if n > 0:
            square *= square
    return result


def is_prime(whole):
    divisor = 2
    while divisor * divisor <= whole:
        if whole % divisor == 0:
            return False
        divisor += 1
    return whole > 1


def prime_after(whole):
    found = whole + 1
    while not is_prime(found):
        found += 1
    return found


def other_prime(prime):
    return SECOND_PRIME if prime == FIRST_PRIME else prime_after(prime)


def dot(row, other):
    return sum([whole * factor for whole, factor in zip(row, other)])


# The least number goes ahead, so that all others are cut down to its size at once.
def content(row, start):
    found = common_divisor(min([abs(whole) for whole in row if whole != 0], default=0), start)
    for whole in row:
        if found == 1:
            return 1
        found = common_divisor(whole, found)
    return found


def row_trimmed(row):
    many = len(row)
    while many > 0 and row[many - 1] == 0:
        many -= 1
    return row[:many]


def row_parted(row, divisor):
    return [whole // divisor for whole in row]


def row_times(row, other):
    if not row or not other:
        return []
    result = [0] * (len(row) + len(other) - 1)
    for place, whole in enumerate(row):
        if whole != 0:
            for step, factor in enumerate(other):
                result[place + step] += whole * factor
    return result


def row_slope(row):
    return [place * row[place] for place in range(1, len(row))]


# None where it leaves a rest. No whole number divides all of the divisor, so that a quotient without a rest is of
# whole numbers alone, and the first broken step tells.
def row_over(row, divisor):
    rest = list(row)
    last = len(divisor) - 1
    quotient = [0] * max(len(row) - last, 0)
    for shift in range(len(row) - last - 1, -1, -1):
        weight = rest[shift + last] // divisor[-1]
        if weight * divisor[-1] != rest[shift + last]:
            return None
        quotient[shift] = weight
        if weight != 0:
            for place in range(last):
                rest[shift + place] -= weight * divisor[place]
    return None if any(rest[:last]) else quotient


def row_at_modulo(row, place, modulus):
    value = 0
    for whole in reversed(row):
        value = (value * place + whole) % modulus
    return value


# All places where the row is nought, real or not, have a size below 2 ^ this (by Fujiwara's bound).
def root_exponent(row):
    sizes = []
    for step in range(1, len(row)):
        whole = row[len(row) - 1 - step]
        if whole != 0:
            sizes.append(-((row[-1].bit_length() - whole.bit_length() - 1) // step))
    return 1 + max(sizes, default=0)


# One step of a division without fractions: factor * row - weight * x ^ shift * other.
def row_less(row, factor, other, weight, shift):
    result = [factor * whole for whole in row]
    result.extend([0] * (len(other) + shift - len(row)))
    for place, whole in enumerate(other):
        result[place + shift] -= weight * whole
    return row_trimmed(result)


# Multiplying n times would take far more products: as the power's slope, times the row, is n times the row's slope,
# times the power, each of the power's numbers follows from those ahead of it. The first of the row is not nought.
def row_power(row, n):
    result = [raised(row[0], n)]
    for place in range(1, n * (len(row) - 1) + 1):
        found = 0
        for step in range(1, min(place, len(row) - 1) + 1):
            found += ((n + 1) * step - place) * row[step] * result[place - step]
        result.append(found // (place * row[0]))
    return result


def row_moved(row, whole):
    result = list(row)
    for first in range(len(row) - 1):
        for place in range(len(row) - 2, first - 1, -1):
            result[place] += whole * result[place + 1]
    return result


# A strand is a list of rows. What is done to the first, which is divided, is done to the others alike: so they can
# keep how the first came about.
def strand_rest(strand, other):
    while len(strand[0]) >= len(other[0]):
        shift = len(strand[0]) - len(other[0])
        top = strand[0][-1]
        lead = other[0][-1]
        shared = common_divisor(top, lead)
        factor = lead // shared
        weight = top // shared
        strand = [row_less(row, factor, follower, weight, shift) for row, follower in zip(strand, other)]
    return strand_shortened(strand)


# Without this the numbers would double their length at every division.
def strand_shortened(strand):
    shared = 0
    for row in strand:
        shared = content(row, shared)
    return [row_parted(row, shared) for row in strand]


def row_shortened(row):
    return strand_shortened([row])[0]


def strand_euclid(strand, other):
    while other[0]:
        # A number divides all, and the rests on the way to it would be the longest.
        if len(other[0]) == 1:
            return other
        rest = strand_rest(strand, other)
        strand = other
        other = rest
    return strand


def inverse_modulo(whole, prime):
    one = prime
    other = whole % prime
    one_weight = 0
    other_weight = 1
    while other != 0:
        quotient = one // other
        rest = one - quotient * other
        one = other
        other = rest
        rest = one_weight - quotient * other_weight
        one_weight = other_weight
        other_weight = rest
    return one_weight % prime


def rests_modulo(row, prime):
    return [whole % prime for whole in row]


def row_modulo(row, prime):
    return row_trimmed(rests_modulo(row, prime))


def monic_modulo(row, prime):
    if not row:
        return []
    factor = inverse_modulo(row[-1], prime)
    return [whole * factor % prime for whole in row]


# The divisor is monic, so that no step here needs an inverse, and the modulus needn't be a prime.
def split_modulo(row, divisor, modulus):
    rest = list(row)
    last = len(divisor) - 1
    quotient = [0] * max(len(row) - last, 0)
    for shift in range(len(row) - last - 1, -1, -1):
        weight = rest[shift + last] % modulus
        quotient[shift] = weight
        if weight != 0:
            for place in range(last):
                rest[shift + place] -= weight * divisor[place]
    return (row_trimmed(quotient), row_modulo(rest[:last], modulus))


def rest_modulo(row, divisor, modulus):
    return split_modulo(row, divisor, modulus)[1]


def euclid_modulo(row, other, prime):
    row = monic_modulo(row_modulo(row, prime), prime)
    other = monic_modulo(row_modulo(other, prime), prime)
    while other:
        rest = rest_modulo(row, other, prime)
        row = other
        other = monic_modulo(rest, prime)
    return row


# The u with u * row = 1 modulo the divisor and the prime, where row and divisor have no common factor.
def inverse_rest(row, divisor, prime):
    one = divisor
    other = rest_modulo(row, divisor, prime)
    one_weight = []
    other_weight = [1]
    while True:
        factor = inverse_modulo(other[-1], prime)
        other = row_modulo([whole * factor for whole in other], prime)
        other_weight = row_modulo([whole * factor for whole in other_weight], prime)
        if len(other) == 1:
            return other_weight
        parted = split_modulo(one, other, prime)
        weight = row_modulo(row_less(one_weight, 1, row_times(parted[0], other_weight), 1, 0), prime)
        one = other
        other = parted[1]
        one_weight = other_weight
        other_weight = weight


# From a monic factor of the row modulo a prime, which has nothing in common with what it leaves of the row, to the one
# modulo a power of the prime above floor: a tuple of that factor and the power. As the row is quotient * factor + rest,
# a step to factor + more leaves rest - quotient * more: so more is rest times weight, quotient's inverse.
def lifted(row, factor, prime, floor):
    modulus = prime
    quotient = split_modulo(monic_modulo(row, prime), factor, prime)[0]
    weight = inverse_rest(quotient, factor, prime)
    while modulus <= floor:
        modulus *= modulus
        whole = monic_modulo(row, modulus)
        rest = rest_modulo(whole, factor, modulus)
        more = rest_modulo(row_times(rest, weight), factor, modulus)
        factor = row_modulo(row_less(factor, 1, more, -1, 0), modulus)
        quotient = split_modulo(whole, factor, modulus)[0]
        spare = row_less([2], 1, rest_modulo(row_times(quotient, weight), factor, modulus), 1, 0)
        weight = rest_modulo(row_times(weight, spare), factor, modulus)
    return (factor, modulus)


# Rows of one length, here of equations: a tuple of the rows that are left when each column that can be is cleared but
# for a single 1, of the places of the rows they came from, and of those columns.
def reduced_modulo(rows, prime):
    left = [rests_modulo(row, prime) for row in rows]
    order = list(range(len(rows)))
    columns = []
    for column in range(len(rows[0]) if rows else 0):
        done = len(columns)
        chosen = [place for place in range(done, len(left)) if left[place][column] != 0]
        if chosen:
            left = swapped(left, done, chosen[0])
            order = swapped(order, done, chosen[0])
            factor = inverse_modulo(left[done][column], prime)
            lead = [whole * factor % prime for whole in left[done]]
            left = [row_cleared(row, lead, column, prime) for row in left]
            left[done] = lead
            columns.append(column)
    return (left[:len(columns)], order[:len(columns)], columns)


def swapped(row, one, other):
    result = list(row)
    result[one] = row[other]
    result[other] = row[one]
    return result


def row_cleared(row, lead, column, prime):
    weight = row[column]
    if weight == 0:
        return row
    return [(whole - weight * other) % prime for whole, other in zip(row, lead)]


# Numbers below nought are looked for too, so half of the rests stand for those.
def nearest(whole, prime):
    rest = whole % prime
    return rest - prime if 2 * rest > prime else rest


# None where the prime doesn't tell. Both rows are not nought and have no whole number that divides all of theirs.
# The greatest common factor keeps its degree modulo the prime, as its last number divides lead, and divides both
# there: so a guess of the degree found there that divides both rows is the greatest.
def common_by_prime(row, other, prime):
    lead = common_divisor(row[-1], other[-1])
    if lead % prime == 0:
        return None
    found = euclid_modulo(row, other, prime)
    guess = row_shortened([nearest(lead * whole, prime) for whole in found])
    if row_over(row, guess) is None or row_over(other, guess) is None:
        return None
    return guess


# Primes go ahead of Euclid's way over the whole numbers, on which numbers grow far beyond those of the outcome.
def row_common(row, other):
    one = row_shortened(row)
    two = row_shortened(other)
    if row and other:
        for exponent in EXPONENTS:
            found = common_by_prime(one, two, raised(2, exponent) - 1)
            if found is not None:
                return found
    return strand_euclid([one], [two])[0]


# The row of the same places, each once, its last number above nought.
def simple_row(row):
    short = row_shortened(row)
    simple = row_over(short, row_common(short, row_slope(short)))
    return simple if simple[-1] > 0 else [-whole for whole in simple]
