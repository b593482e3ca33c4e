"""Walks along packed rows."""

from findhall.rows import unpacked_row
from findhall.signs import need_number


class Walk:
    def __init__(self, parts):
        self.pairs = unpacked_row(parts)
        self.place = 0

    def pair(self):
        if self.place == len(self.pairs):
            return None
        return self.pairs[self.place]

    def step(self):
        if self.place < len(self.pairs):
            self.place += 1

    def leap(self, number):
        need_number(number, 0)
        low = self.place
        high = len(self.pairs)
        # The numbers rise, so half of what is left falls away at each look.
        while low < high:
            middle = (low + high) // 2
            if self.pairs[middle][0] < number:
                low = middle + 1
            else:
                high = middle
        self.place = low

    def rest(self):
        return self.pairs[self.place:]
