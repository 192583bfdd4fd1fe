"""Forms and log numbers as texts."""

from backslope.numbers import size_of
from backslope.texts import joint, show, show_number, show_poly


def show_form(form):
    return with_logs(show(form[0]), [(c, show_poly(v)) for c, v in form[1]])


def show_log_number(n):
    return with_logs(show_number(n[0]), [(c, show_number(r)) for c, r in n[1]])


def with_logs(first, rows):
    text = "" if first == "0" and rows else first
    for c, inner in rows:
        text += joint(c, text == "") + show_number(size_of(c)) + "*log(" + inner + ")"
    return text
