"""Parts: numbers packed by their sevens of bits, one number behind the other."""

from findhall.errors import BadParts
from findhall.signs import is_whole, need_number

GREATEST_PART = 255
# A part has seven bits of its number; this, the bit above them, says that more parts of the number come.
MORE_COMES = 128


def parts_of_one(number):
    parts = []
    rest = number
    while rest >= MORE_COMES:
        parts.append(MORE_COMES + rest % MORE_COMES)
        rest = rest // MORE_COMES
    parts.append(rest)
    return parts


def packed(numbers):
    parts = []
    for number in numbers:
        parts.extend(parts_of_one(need_number(number, 0)))
    return parts


def need_parts(thing):
    if not isinstance(thing, list):
        raise BadParts("parts are a list")
    for part in thing:
        if not is_whole(part) or part < 0 or part > GREATEST_PART:
            raise BadParts("this is no part")
    return thing


def unpacked(parts):
    numbers = []
    number = 0
    weight = 1
    for part in need_parts(parts):
        number += part % MORE_COMES * weight
        if part >= MORE_COMES:
            weight = weight * MORE_COMES
        else:
            if part == 0 and weight > 1:
                raise BadParts("the last part of several is 0")
            numbers.append(number)
            number = 0
            weight = 1
    if weight > 1:
        raise BadParts("the last number has no last part")
    return numbers
