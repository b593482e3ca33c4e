"""Rows of a key and a worth in order: the greatest worth first, of like worths by rising keys."""

from findhall.fractions import is_less
from findhall.signs import need_number


def stands_ahead(one, other):
    if one[1] == other[1]:
        return one[0] < other[0]
    return is_less(other[1], one[1])


def put_in(ordered, row):
    low = 0
    high = len(ordered)
    # The rows are in order, so half of what is left falls away at each look.
    while low < high:
        middle = (low + high) // 2
        if stands_ahead(ordered[middle], row):
            low = middle + 1
        else:
            high = middle
    ordered.insert(low, row)


def in_order(rows):
    ordered = []
    for row in rows:
        put_in(ordered, row)
    return ordered


class Best:
    def __init__(self, most=10):
        self.most = need_number(most, 0)
        self.rows = []

    def offer(self, key, worth):
        put_in(self.rows, (key, worth))
        # What is not among the first now never is later.
        if len(self.rows) > self.most:
            self.rows.pop()

    def told(self):
        return list(self.rows)
