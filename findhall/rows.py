"""Rows: lists of tuples of a number and its places, and how they are packed."""

from findhall.errors import BadParts, BadRow
from findhall.packing import packed, unpacked
from findhall.signs import is_whole

# In what follows, least is the least number that may come next: one more than the one ahead, 0 at first.


def is_rising(numbers):
    least = 0
    for number in numbers:
        if not is_whole(number) or number < least:
            return False
        least = number + 1
    return True


def has_places(thing):
    if not isinstance(thing, tuple) or len(thing) != 2:
        return False
    places = thing[1]
    return isinstance(places, tuple) and len(places) > 0 and is_rising(places)


def need_row(thing):
    if not isinstance(thing, list):
        raise BadRow("a row is a list")
    if not all([has_places(pair) for pair in thing]):
        raise BadRow("one of the row is no tuple of a number and its places")
    if not is_rising([number for number, places in thing]):
        raise BadRow("the numbers of the row are none that rise")
    return thing


def gaps_of(numbers):
    gaps = []
    least = 0
    for number in numbers:
        gaps.append(number - least)
        least = number + 1
    return gaps


def numbers_by(gaps):
    numbers = []
    least = 0
    for gap in gaps:
        numbers.append(least + gap)
        least = least + gap + 1
    return numbers


def packed_row(row):
    gaps = gaps_of([number for number, places in need_row(row)])
    told = []
    for at, pair in enumerate(row):
        places = pair[1]
        told.extend([gaps[at], len(places) - 1])
        told.extend(gaps_of(places))
    return packed(told)


def unpacked_row(parts):
    told = unpacked(parts)
    row = []
    least = 0
    begin = 0
    while begin < len(told):
        # A tuple has three numbers at least: its own, how many more places than one, and its first place.
        if begin + 3 > len(told) or begin + 3 + told[begin + 1] > len(told):
            raise BadParts("the last tuple has not all its numbers")
        end = begin + 3 + told[begin + 1]
        number = least + told[begin]
        row.append((number, tuple(numbers_by(told[begin + 2:end]))))
        least = number + 1
        begin = end
    return row
