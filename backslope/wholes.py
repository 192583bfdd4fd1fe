"""Whole numbers and rows of them: what numbers and polynomials are reckoned with.

A row is a list of whole numbers that stands for a polynomial, the one of x to the 0 first, the last one not nought.
Reckoning with a row over one bottom spares the search for lowest terms at every single step.
"""

# For each n here 2 ^ n - 1 is a prime.
EXPONENTS = (61, 127, 521, 1279, 4423, 9941, 21701, 44497)


def common_divisor(one, other):
    while other != 0:
        rest = one % other
        one = other
        other = rest
    return abs(one)


def raised(whole, n):
    result = 1
    square = whole
    while n > 0:
        if n % 2 == 1:
            result *= square
        n //= 2
        # The last square would be the greatest of all, and nothing needs it.
        if n > 0:
            square *= square
    return result


def content(row, start):
    found = abs(start)
    for whole in row:
        if found == 1:
            return 1
        found = common_divisor(whole, found)
    return found


def row_trimmed(row):
    many = len(row)
    while many > 0 and row[many - 1] == 0:
        many -= 1
    return row[:many]


def row_parted(row, divisor):
    return [whole // divisor for whole in row]


def row_times(row, other):
    if not row or not other:
        return []
    result = [0] * (len(row) + len(other) - 1)
    for place, whole in enumerate(row):
        if whole != 0:
            for step, factor in enumerate(other):
                result[place + step] += whole * factor
    return result


# One step of a division without fractions: factor * row - weight * x ^ shift * other.
def row_less(row, factor, other, weight, shift):
    result = [factor * whole for whole in row]
    result.extend([0] * (len(other) + shift - len(row)))
    for place, whole in enumerate(other):
        result[place + shift] -= weight * whole
    return row_trimmed(result)


# Multiplying n times would take far more products: as the power's slope, times the row, is n times the row's slope,
# times the power, each of the power's numbers follows from those ahead of it. The first of the row is not nought.
def row_power(row, n):
    result = [raised(row[0], n)]
    for place in range(1, n * (len(row) - 1) + 1):
        found = 0
        for step in range(1, min(place, len(row) - 1) + 1):
            found += ((n + 1) * step - place) * row[step] * result[place - step]
        result.append(found // (place * row[0]))
    return result


def row_moved(row, whole):
    result = list(row)
    for first in range(len(row) - 1):
        for place in range(len(row) - 2, first - 1, -1):
            result[place] += whole * result[place + 1]
    return result


# A strand is a list of rows. What is done to the first, which is divided, is done to the others alike: so they can
# keep how the first came about.
def strand_rest(strand, other):
    while len(strand[0]) >= len(other[0]):
        shift = len(strand[0]) - len(other[0])
        top = strand[0][-1]
        lead = other[0][-1]
        shared = common_divisor(top, lead)
        factor = lead // shared
        weight = top // shared
        strand = [row_less(row, factor, follower, weight, shift) for row, follower in zip(strand, other)]
    return strand_shortened(strand)


# Without this the numbers would double their length at every division.
def strand_shortened(strand):
    shared = 0
    for row in strand:
        shared = content(row, shared)
    return [row_parted(row, shared) for row in strand]


def strand_euclid(strand, other):
    while other[0]:
        # A number divides all, and the rests on the way to it would be the longest.
        if len(other[0]) == 1:
            return other
        rest = strand_rest(strand, other)
        strand = other
        other = rest
    return strand


def inverse_modulo(whole, prime):
    one = prime
    other = whole % prime
    one_weight = 0
    other_weight = 1
    while other != 0:
        quotient = one // other
        rest = one - quotient * other
        one = other
        other = rest
        rest = one_weight - quotient * other_weight
        one_weight = other_weight
        other_weight = rest
    return one_weight % prime


def row_modulo(row, prime):
    return row_trimmed([whole % prime for whole in row])


def monic_modulo(row, prime):
    if not row:
        return []
    factor = inverse_modulo(row[-1], prime)
    return [whole * factor % prime for whole in row]


# The divisor is monic, so that no step here needs an inverse.
def rest_modulo(row, divisor, prime):
    while len(row) >= len(divisor):
        row = row_modulo(row_less(row, 1, divisor, row[-1], len(row) - len(divisor)), prime)
    return row


def euclid_modulo(row, other, prime):
    row = monic_modulo(row_modulo(row, prime), prime)
    other = monic_modulo(row_modulo(other, prime), prime)
    while other:
        rest = rest_modulo(row, other, prime)
        row = other
        other = monic_modulo(rest, prime)
    return row


# As no whole number divides all of the divisor, a quotient is of whole numbers alone: the first broken step tells.
def divides(divisor, row):
    while len(row) >= len(divisor):
        if row[-1] % divisor[-1] != 0:
            return False
        row = row_less(row, 1, divisor, row[-1] // divisor[-1], len(row) - len(divisor))
    return not row


# Numbers below nought are looked for too, so half of the rests stand for those.
def nearest(whole, prime):
    rest = whole % prime
    return rest - prime if 2 * rest > prime else rest


# None where the prime doesn't tell. Both rows are not nought and have no whole number that divides all of theirs.
# The greatest common factor keeps its degree modulo the prime, as its last number divides lead, and divides both
# there: so a guess of the degree found there that divides both rows is the greatest.
def common_by_prime(row, other, prime):
    lead = common_divisor(row[-1], other[-1])
    if lead % prime == 0:
        return None
    found = euclid_modulo(row, other, prime)
    guess = strand_shortened([[nearest(lead * whole, prime) for whole in found]])[0]
    if divides(guess, row) and divides(guess, other):
        return guess
    return None


# Primes go ahead of Euclid's way over the whole numbers, on which numbers grow far beyond those of the outcome.
def row_common(row, other):
    one = strand_shortened([row])
    two = strand_shortened([other])
    if row and other:
        for exponent in EXPONENTS:
            found = common_by_prime(one[0], two[0], raised(2, exponent) - 1)
            if found is not None:
                return found
    return strand_euclid(one, two)[0]
