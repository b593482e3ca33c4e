"""Pieces of a text: the places of spans and the words around them."""

from findhall.errors import BadSpan
from findhall.signs import is_whole, need_number
from findhall.words import words_in


def is_span(thing, size):
    if not isinstance(thing, tuple) or len(thing) != 2:
        return False
    if not is_whole(thing[0]) or not is_whole(thing[1]):
        return False
    return 0 <= thing[0] <= thing[1] < size


def need_spans(spans, size):
    if not isinstance(spans, list):
        raise BadSpan("spans are a list")
    for span in spans:
        if not is_span(span, size):
            raise BadSpan("one of these is no span of the text")
    return spans


def rows_of_neighbours(spans):
    found = []
    for begin, end in sorted(spans):
        if len(found) > 0 and begin <= found[-1][1] + 1:
            found[-1] = (found[-1][0], max(found[-1][1], end))
        else:
            found.append((begin, end))
    return found


def windows(size, spans, around):
    need_number(size, 0)
    need_number(around, 0)
    need_spans(spans, size)
    return rows_of_neighbours([(max(begin - around, 0), min(end + around, size - 1)) for begin, end in spans])


def signs_of(words, span):
    # From the first word's begin to the last word's end.
    return (words[span[0]][1], words[span[1]][2])


def piece_of(words, window, marked):
    within = [signs_of(words, mark) for mark in marked if window[0] <= mark[0] <= window[1]]
    signs = signs_of(words, window)
    return (signs[0], signs[1], within)


def pieces_of(text, spans, around=3, most=3):
    words = words_in(text)
    need_number(around, 0)
    need_number(most, 0)
    found = windows(len(words), spans, around)
    marked = rows_of_neighbours(spans)
    return [piece_of(words, window, marked) for window in found[:most]]
