"""Worth: how much a text is to a question, as an exact fraction."""

from findhall.fractions import fraction, product_of, sum_of
from findhall.signs import need_number


def need_numbers(numbers):
    for number in numbers:
        need_number(number, 0)


def share_of(count, size, many, total):
    need_numbers([count, size, many, total])
    # Where nothing stands, there may be no texts and no words either, and so nothing to divide by.
    if count == 0:
        return fraction(0)
    return fraction(2 * count * total, (count + 1) * total + size * many)


def rarity_of(many, found):
    need_numbers([many, found])
    return fraction(many + 1, found + 1)


def worth_of(counts, founds, size, many, total):
    # They are looked at ahead, as without leaves nothing below does it.
    need_numbers([size, many, total])
    worth = fraction(0)
    for count, found in zip(counts, founds):
        share = share_of(count, size, many, total)
        worth = sum_of(worth, product_of(share, rarity_of(many, found)))
    return worth
