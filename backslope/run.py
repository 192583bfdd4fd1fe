"""Sheets: texts of rows, each of which asks for something, and the texts that answer them."""

from backslope.areas import area
from backslope.back import back
from backslope.errors import Hole, NoRow, NoText, Nought, TooGreat
from backslope.fractions import is_number
from backslope.limits import limit
from backslope.lognumbers import held
from backslope.numbers import before, power
from backslope.polys import number_of
from backslope.roots import read_root, root_back
from backslope.sheet import show_form, show_log_number
from backslope.slopes import solve
from backslope.sums import sum_of, summed
from backslope.texts import NOUGHT, read_x, show, show_number


def run(text):
    asked = []
    for line, row in enumerate(text.split("\n")):
        if row.strip(" ") != "":
            asked.append(read_row(row.strip(" "), line))
    return [answer(word, values) for word, values in asked]


# Whatever is wrong with a row is refused as a wrong expression is, and here alone it gets its place.
def read_row(row, line):
    halves = row.partition(" ")
    parts = [part.strip(" ") for part in halves[2].split(";")]
    try:
        return (halves[0], values_of(halves[0], parts))
    except (NoText, Nought):
        raise NoRow(line) from None


def values_of(word, parts):
    if word not in WORDS or len(parts) != WORDS[word][0]:
        raise NoText("no such word, or not so many parts")
    return WORDS[word][1](parts)


def answer(word, values):
    try:
        return WORDS[word][2](values)
    except TooGreat:
        return "too great"


def fraction_values(parts):
    return [read_x(part) for part in parts]


def root_values(parts):
    kind = (int(one_of(parts[0], ("2", "3", "4"))), read_number(parts[1]), read_number(parts[2]))
    if kind[1] == (0, 1):
        raise NoText("the root of a number alone")
    return (kind, read_root(kind, parts[3]))


def step_values(parts):
    r = read_x(parts[0])
    if r == NOUGHT:
        raise NoText("a step of nought")
    return (r,)


def area_values(parts):
    width = read_number(parts[3])
    if before(width, power((10, 1), -40)):
        raise NoText("a width of nought, below it or too little")
    return (read_x(parts[0]), read_number(parts[1]), read_number(parts[2]), width)


def limit_values(parts):
    place = None if parts[1] == "end" else read_number(parts[1])
    return (read_x(parts[0]), place, one_of(parts[2], ("above", "below")))


def read_number(text):
    F = read_x(text)
    if not is_number(F):
        raise NoText("an expression that comes to no number")
    return number_of(F[0], 0)


def one_of(text, words):
    if text not in words:
        raise NoText("none of the words that may stand here")
    return text


def answer_back(values):
    told = back(values[0])
    return "told " + show_form(told[1]) if told[0] == "told" else "none"


def answer_root(values):
    told = root_back(values[0], values[1])
    return "told " + show_form(told[1]).replace("x", "y") if told[0] == "told" else "none"


def answer_sum(values):
    return "told 0" if values[0] == NOUGHT else show_sum(sum_of(values[0]))


def answer_step(values):
    return show_sum(summed(values[0]))


def show_sum(told):
    return "told " + show(told[1]) if told[0] == "told" else "none"


def answer_solve(values):
    told = solve(values[0], values[1])
    if told[0] == "none":
        return "none"
    return "told " + " ; ".join([show(F) for F in told[1:3] if F is not None])


def answer_area(values):
    try:
        told = area(values[0], values[1], values[2])
    except Hole as hole:
        many = hole.many
        return f"hole {many}"
    if told[0] == "none":
        return "none"
    ends = held(told[1], values[3])
    return "told " + " ; ".join([show_log_number(told[1]), show_number(ends[0]), show_number(ends[1])])


def answer_limit(values):
    told = back(values[0])
    if told[0] == "none":
        return "none"
    goes = limit(told[1], values[1], values[2])
    return "number " + show_log_number(goes[1]) if goes[0] == "number" else goes[0]


# For each word how many parts it has, what reads them, and what answers it.
WORDS = {
    "back": (1, fraction_values, answer_back),
    "root": (4, root_values, answer_root),
    "sum": (1, fraction_values, answer_sum),
    "step": (1, step_values, answer_step),
    "solve": (2, fraction_values, answer_solve),
    "area": (4, area_values, answer_area),
    "limit": (3, limit_values, answer_limit),
}
