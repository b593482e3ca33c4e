"""Words, and the words of a text."""

from findhall.errors import BadWord
from findhall.signs import SMALL_SIGNS, is_small_row, need_text

MOST_WORD_SIGNS = 2000


def is_word(thing):
    return is_small_row(thing, MOST_WORD_SIGNS)


def need_word(thing):
    if not is_word(thing):
        raise BadWord("this is no word")
    return thing


def words_in(text):
    small = need_text(text).lower()
    found = []
    begin = 0
    # The blank behind the text ends a word that stands at its very end.
    for place, sign in enumerate(small + " "):
        if sign not in SMALL_SIGNS:
            if begin < place:
                found.append((small[begin:place], begin, place))
            begin = place + 1
    return found


def plain_words(text):
    return [word for word, begin, end in words_in(text)]
