"""Checks what is told of equations of slopes: a solution, that there is no other, or that there is none."""

from backslope.backpaper import is_monic, shows_form, shows_none
from backslope.forms import form_slope, settled
from backslope.fractions import f_minus, f_plus, f_slope, f_times, is_number
from backslope.numbers import over, plus, times
from backslope.parts import is_nought_over
from backslope.places import rational_roots
from backslope.polys import degree, p_minus, p_scaled, p_slope, p_split, p_times, poly
from backslope.slopes import columns_up_to, is_whole_above, simple_factors, top_by
from backslope.sumpaper import weighs
from backslope.texts import NOUGHT


def shows_solution(f, g, y):
    return f_plus(f_slope(y), f_times(f, y)) == g


# None is what is told beside a u: there are other solutions then.
def shows_only(f, why):
    if why is None:
        return False
    if why[0] == "none":
        return shows_none(f, why[1])
    # Were the v not as a form has them, broken c might come to whole ones.
    form = settled(why[1][0], list(why[1][1]))[0]
    return shows_form(f, form) and not is_of_powers(form)


# Whether it means the logarithm of a number times whole powers of polynomials.
def is_of_powers(form):
    return is_number(form[0]) and all([c[1] == 1 for c, v in form[1]])


def shows_no_solution(f, g, paper):
    rows = paper[0]
    W = paper[1]
    return shows_rows(f, rows, W) and shows_others(f, W, paper[2]) and shows_weights(f, g, rows, paper[3])


# Whether f's residue at all places of each v is its whole number, and W has all other places of simple poles. Where all
# v are monic W is too, as their product is.
def shows_rows(f, rows, W):
    wholes = [rho for rho, v in rows]
    if any([rho < 1 for rho in wholes]) or len(set(wholes)) < len(wholes):
        return False
    if not all([is_monic(v) for rho, v in rows]):
        return False
    slope = p_slope(f[1])
    left = W
    for rho, v in rows:
        left = p_times(left, v)
        if p_split(p_minus(f[0], p_scaled(slope, (rho, 1))), v)[1] != ():
            return False
    return left == simple_factors(f[1])


# Whether the residues at W's places are roots of m, and no whole number above nought is.
def shows_others(f, W, m):
    if degree(W) == 0:
        return True
    if degree(m) < 1 or any([is_whole_above(c) for c in rational_roots(m)]):
        return False
    return is_nought_over(m, f[0], p_slope(f[1]), W)


# Whether the weights tell s from all that polynomials z of degree top_for at most come to. The degrees of T and s, and
# top_for, may be beyond all reckoning here: but weights weigh no more of s's numbers, nor of the i, than they are many.
def shows_weights(f, g, rows, weights):
    logs = [((rho, 1), v) for rho, v in rows]
    h = f_minus(f, form_slope((NOUGHT, tuple([((1, 1), g[1])] + logs))))
    p = h[1]
    start = p_times(p, g[0])
    most = degree(start)
    for rho, v in rows:
        most += rho * degree(v)
        start = p_times(start, power_start(v, rho, len(weights)))[:len(weights)]
    top = top_by(p, h[0], most)
    if top is not None:
        top = min(top, len(weights))
    return weighs(weights, start) and not any([weighs(weights, P) for P in columns_up_to(p, h[0], top)])


# The first numbers of v ^ rho, so many, over a number that isn't nought, which spares numbers without bounds. Each
# follows from those ahead of it, as the power's slope times v is rho times the power times v's slope.
def power_start(v, rho, many):
    low = 0
    while v[low][0] == 0:
        low += 1
    if low * rho >= many:
        return ()
    found = [(1, 1)]
    for place in range(1, many - low * rho):
        total = (0, 1)
        for step in range(1, min(place, degree(v) - low) + 1):
            part = times(v[low + step], found[place - step])
            total = plus(total, times(part, ((rho + 1) * step - place, 1)))
        found.append(over(total, times(v[low], (place, 1))))
    return poly([(0, 1)] * (low * rho) + found)
