"""Checks what the way back tells: a form of a slope, or a paper which shows that no form has it."""

from backslope.forms import form_slope
from backslope.fractions import f_plus, f_slope, fraction
from backslope.parts import is_nought_over
from backslope.places import rational_roots
from backslope.polys import common, degree, p_slope, p_split


def shows_form(f, form):
    return form_slope(form) == f


def shows_none(f, paper):
    return shows_rest(f, paper[0], paper[1], paper[2]) and shows_part(paper[1], paper[2], paper[3], paper[4])


def is_monic(P):
    return P != () and P[-1] == (1, 1)


# Whether f is the slope of R and A over D, which has logarithms alone.
def shows_rest(f, R, A, D):
    if not is_monic(D) or degree(common(D, p_slope(D))) > 0 or degree(A) >= degree(D):
        return False
    return f_plus(f_slope(R), fraction(A, D)) == f


# Whether the residues at W's places, which are places of D, are roots of m, and no number is.
def shows_part(A, D, W, m):
    if not is_monic(W) or degree(W) < 1 or p_split(D, W)[1] != ():
        return False
    if degree(m) < 1 or rational_roots(m) != []:
        return False
    return is_nought_over(m, A, p_slope(D), W)
