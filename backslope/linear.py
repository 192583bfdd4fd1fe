"""Rows of equations.

They are solved modulo a prime, then modulo higher and higher powers of it, until numbers can be told from what they
leave there. So nothing on the way is much longer than the outcome, and what is told has been put into all equations.
"""

from backslope.numbers import ratio
from backslope.polys import cleared
from backslope.wholes import FIRST_PRIME, dot, nearest, other_prime, reduced_modulo


def solved(rows, due):
    lines = [cleared(list(row) + [number]) for row, number in zip(rows, due)]
    sides = [line[0][:-1] for line in lines]
    dues = [line[0][-1] for line in lines]
    core = Core(sides, FIRST_PRIME)
    frees = frees_of(sides, core)
    while frees is None:
        core = Core(sides, other_prime(core.prime))
        frees = frees_of(sides, core)
    solution = settled(core.minor, core.turned, picked(dues, core.lines), core.prime)
    row = spread(core.columns, solution[0], width_of(sides))
    for place, side in enumerate(sides):
        if dot(side, row) != dues[place] * solution[1]:
            weights = weights_against(sides, core, place)
            # A line is its equation times the line's bottom.
            wholes = [weight * line[1] for weight, line in zip(weights[0], lines)]
            return ("none", numbers_over(wholes, weights[1]))
    return ("told", numbers_over(row, solution[1]), tuple(frees))


# As many lines and columns as can be, such that their minor isn't nought modulo the prime, and the minor's inverse.
class Core:
    def __init__(self, sides, prime):
        reduced = reduced_modulo(sides, prime)
        self.prime = prime
        self.lines = reduced[1]
        self.columns = reduced[2]
        self.minor = [picked(sides[line], self.columns) for line in self.lines]
        self.turned = inverse_rows(self.minor, prime)


def width_of(sides):
    return len(sides[0]) if sides else 0


def picked(row, places):
    return [row[place] for place in places]


def spread(places, wholes, width):
    result = [0] * width
    for place, whole in zip(places, wholes):
        result[place] = whole
    return result


def numbers_over(wholes, bottom):
    return tuple([ratio(whole, bottom) for whole in wholes])


def crossed(rows):
    return [picked_column(rows, place) for place in range(width_of(rows))]


def picked_column(rows, place):
    return [row[place] for row in rows]


def inverse_rows(rows, prime):
    many = len(rows)
    beside = [row + spread([place], [1], many) for place, row in enumerate(rows)]
    return [row[many:] for row in reduced_modulo(beside, prime)[0]]


# For each column that isn't the core's, the row with 1 there and noughts at the others that aren't. None where one
# doesn't solve a line that isn't the core's: then the rank is greater than it is modulo this prime.
def frees_of(sides, core):
    width = width_of(sides)
    frees = []
    for column in range(width):
        if column not in core.columns:
            due = [-sides[line][column] for line in core.lines]
            solution = settled(core.minor, core.turned, due, core.prime)
            row = spread(core.columns, solution[0], width)
            row[column] = solution[1]
            if any([dot(side, row) for side in sides]):
                return None
            frees.append(numbers_over(row, solution[1]))
    return frees


# The line at this place is made of the core's, but its due isn't made so of theirs.
def weights_against(sides, core, place):
    due = picked(sides[place], core.columns)
    solution = settled(crossed(core.minor), crossed(core.turned), due, core.prime)
    weights = spread(core.lines, [-whole for whole in solution[0]], len(sides))
    weights[place] = solution[1]
    return (weights, solution[1])


# The only solution, as a tuple of whole numbers and the bottom below all of them; turned is the inverse of minor
# modulo the prime. In each step places solves minor modulo scale, and what is still due is left times scale.
def settled(minor, turned, due, prime):
    left = due
    places = [0] * len(due)
    scale = 1
    steps = 1
    while True:
        for step in range(steps):
            short = [whole % prime for whole in left]
            found = [dot(row, short) % prime for row in turned]
            places = [whole + scale * more for whole, more in zip(places, found)]
            left = [(whole - dot(row, found)) // prime for whole, row in zip(left, minor)]
            scale *= prime
        guess = guessed(places, scale)
        if guess is not None and solves(minor, guess, due):
            return guess
        steps *= 2


def solves(minor, guess, due):
    for row, whole in zip(minor, due):
        if dot(row, guess[0]) != whole * guess[1]:
            return False
    return True


# The bottom that is found with one place mostly serves for all others.
def guessed(places, modulus):
    limit = 1 << ((modulus.bit_length() - 2) // 2)
    bottom = 1
    for place in places:
        if abs(nearest(place * bottom, modulus)) > limit:
            bottom *= bottom_modulo(place * bottom % modulus, modulus, limit)
            if bottom > limit:
                return None
    return ([nearest(place * bottom, modulus) for place in places], bottom)


# The bottom of the fraction that leaves this whole number and has a top of limit at most. Euclid's weights, of which
# it is one, change their sign at each step: so their sizes add up.
def bottom_modulo(whole, modulus, limit):
    one = modulus
    other = whole
    one_weight = 0
    other_weight = 1
    while other > limit:
        quotient = one // other
        rest = one - quotient * other
        one = other
        other = rest
        size = one_weight + quotient * other_weight
        one_weight = other_weight
        other_weight = size
    return other_weight
