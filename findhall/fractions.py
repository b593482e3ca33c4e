"""Fractions: tuples of an above and a below that have no divisor in common but 1."""

from findhall.errors import BadNumber
from findhall.signs import is_whole, need_number


def common_divisor(one, other):
    while other > 0:
        rest = one % other
        one = other
        other = rest
    return one


def fraction(above, below=1):
    if not is_whole(above):
        raise BadNumber("what is above is no whole number")
    need_number(below, 1)
    divisor = common_divisor(abs(above), below)
    return (above // divisor, below // divisor)


def sum_of(one, other):
    return fraction(one[0] * other[1] + other[0] * one[1], one[1] * other[1])


def product_of(one, other):
    return fraction(one[0] * other[0], one[1] * other[1])


def is_less(one, other):
    return one[0] * other[1] < other[0] * one[1]


def figures_of(number):
    # Python writes no number of some thousands of figures by itself, so a great one is written bit by bit.
    beyond = 10 ** 60
    rest = abs(number)
    figures = ""
    while rest >= beyond:
        figures = str(rest % beyond).zfill(60) + figures
        rest = rest // beyond
    figures = str(rest) + figures
    return "-" + figures if number < 0 else figures


def shown_fraction(one):
    above = figures_of(one[0])
    return above if one[1] == 1 else above + "/" + figures_of(one[1])
