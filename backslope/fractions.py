"""Fractions: tuples (P, Q) of polynomials without a common factor, Q monic."""

from backslope.numbers import over
from backslope.polys import common, degree, p_at, p_minus, p_moved, p_plus, p_scaled, p_slope, p_split, p_times, poly


def fraction(P, Q):
    shared = common(P, Q)
    return evened(quotient(P, shared), quotient(Q, shared))


# P over Q where they have no common factor.
def evened(P, Q):
    factor = over((1, 1), Q[-1])
    return (p_scaled(P, factor), p_scaled(Q, factor))


# Here nothing is left of P by Q.
def quotient(P, Q):
    return p_split(P, Q)[0]


def f_poly(P):
    return (P, ((1, 1),))


def f_number(c):
    return f_poly(poly([c]))


def is_number(F):
    return degree(F[0]) < 1 and degree(F[1]) == 0


# What the top and the bottom of a sum have in common divides what the two bottoms have in common.
def f_plus(F, G):
    shared = common(F[1], G[1])
    rest = quotient(G[1], shared)
    top = p_plus(p_times(F[0], rest), p_times(G[0], quotient(F[1], shared)))
    spare = common(top, shared)
    return (quotient(top, spare), quotient(p_times(F[1], rest), spare))


def f_minus(F, G):
    return f_plus(F, (p_minus((), G[0]), G[1]))


# A top has nothing in common with its own bottom, only with the other one.
def f_times(F, G):
    one = fraction(F[0], G[1])
    other = fraction(G[0], F[1])
    return (p_times(one[0], other[0]), p_times(one[1], other[1]))


def f_over(F, G):
    return f_times(F, fraction(G[1], G[0]))


# With Q = shared * rest: where Q is nought so is rest, but not P times Q's slope over shared. So nothing is in common.
def f_slope(F):
    slope = p_slope(F[1])
    shared = common(F[1], slope)
    rest = quotient(F[1], shared)
    top = p_minus(p_times(p_slope(F[0]), rest), p_times(F[0], quotient(slope, shared)))
    return (top, p_times(F[1], rest))


def f_at(F, c):
    bottom = p_at(F[1], c)
    return None if bottom == (0, 1) else over(p_at(F[0], c), bottom)


def f_moved(F, c):
    return (p_moved(F[0], c), p_moved(F[1], c))
