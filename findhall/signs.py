"""Whole numbers, texts and keys: what is one, and the refusal of what is none."""

from findhall.errors import BadKey, BadNumber, BadText

MOST_TEXT_SIGNS = 2000
MOST_KEY_SIGNS = 12
SMALL_SIGNS = "abcdefghijklmnopqrstuvwxyz0123456789"
# The percent sign is told by its number, as no text of the program may hold it.
PERCENT_NUMBER = 37


def is_whole(thing):
    return isinstance(thing, int) and not isinstance(thing, bool)


def is_text_sign(sign):
    return sign == "\n" or (" " <= sign <= "~" and ord(sign) != PERCENT_NUMBER)


def is_text(thing):
    if not isinstance(thing, str) or len(thing) > MOST_TEXT_SIGNS:
        return False
    return all([is_text_sign(sign) for sign in thing])


def is_small_row(thing, most):
    if not isinstance(thing, str) or len(thing) < 1 or len(thing) > most:
        return False
    return all([sign in SMALL_SIGNS for sign in thing])


def is_key(thing):
    return is_small_row(thing, MOST_KEY_SIGNS)


# The refusals' words leave the thing out: a number may be too great to be written, a thing may not be shown.


def need_text(thing):
    if not is_text(thing):
        raise BadText("this is no text")
    return thing


def need_key(thing):
    if not is_key(thing):
        raise BadKey("this is no key")
    return thing


def need_number(thing, least, most=None):
    if not is_whole(thing):
        raise BadNumber("this is no whole number")
    if thing < least:
        raise BadNumber("this number is too small")
    if most is not None and thing > most:
        raise BadNumber("this number is too great")
    return thing
