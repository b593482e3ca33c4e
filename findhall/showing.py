"""Pieces of a text shown as lines, and such lines read back."""

from findhall.errors import BadSpan, BadText, NoLine
from findhall.signs import is_whole
from findhall.words import words_in

DOTS_AHEAD = "... "
DOTS_BEHIND = " ..."
# The least of a text that has a word ahead of a piece, and behind it.
LEAST_AHEAD = "a "
LEAST_BEHIND = " a"
SHOWN_SIGNS = {"[": "\\[", "]": "\\]", "\\": "\\\\", "\n": "\\n"}
MEANT_SIGNS = {"\\[": "[", "\\]": "]", "\\\\": "\\", "\\n": "\n"}


def need_words(words, begin, end):
    # The place of the word that begins at the one sign, and that of the word that ends at the other.
    if not is_whole(begin) or not is_whole(end):
        raise BadSpan("a sign's place is a whole number")
    firsts = [place for place, word in enumerate(words) if word[1] == begin]
    lasts = [place for place, word in enumerate(words) if word[2] == end]
    if len(firsts) == 0 or len(lasts) == 0 or lasts[0] < firsts[0]:
        raise BadSpan("no words stand from the one sign to the other")
    return (firsts[0], lasts[0])


def need_marks(words, marks, window):
    if not isinstance(marks, list) or len(marks) == 0:
        raise BadSpan("marks are a list of one or more")
    least = window[0]
    for mark in marks:
        if not isinstance(mark, tuple) or len(mark) != 2:
            raise BadSpan("a mark is a tuple of a begin and an end")
        places = need_words(words, mark[0], mark[1])
        if places[0] < least or places[1] > window[1]:
            raise BadSpan("this mark can't stand there")
        # Between two marks a word stands that is in none.
        least = places[1] + 2


def need_window(words, piece):
    if not isinstance(piece, tuple) or len(piece) != 3:
        raise BadSpan("a piece is a tuple of a begin, an end and marks")
    window = need_words(words, piece[0], piece[1])
    need_marks(words, piece[2], window)
    return window


def shown_signs(signs):
    return "".join([SHOWN_SIGNS.get(sign, sign) for sign in signs])


def shown_marks(text, piece):
    shown = ""
    place = piece[0]
    for begin, end in piece[2]:
        shown += shown_signs(text[place:begin]) + "[" + shown_signs(text[begin:end]) + "]"
        place = end
    return shown + shown_signs(text[place:piece[1]])


def shown_line(text, piece):
    words = words_in(text)
    window = need_window(words, piece)
    ahead = DOTS_AHEAD if window[0] > 0 else ""
    behind = DOTS_BEHIND if window[1] < len(words) - 1 else ""
    return ahead + shown_marks(text, piece) + behind


def by_strokes(line):
    # Each sign by itself, but a stroke together with the sign behind it.
    parts = []
    place = 0
    while place < len(line):
        size = 2 if line[place] == "\\" else 1
        parts.append(line[place:place + size])
        place += size
    return parts


def read_marks(line):
    signs = []
    begins = []
    ends = []
    for part in by_strokes(line):
        if part == "[":
            begins.append(len(signs))
        elif part == "]":
            ends.append(len(signs))
        else:
            signs.append(MEANT_SIGNS.get(part, part))
    return ("".join(signs), list(zip(begins, ends)))


def shown_again(ahead, signs, marks, behind):
    # By the shortest text that has this piece.
    begin = len(LEAST_AHEAD) if ahead else 0
    text = (LEAST_AHEAD if ahead else "") + signs + (LEAST_BEHIND if behind else "")
    moved = [(begin + first, begin + last) for first, last in marks]
    return shown_line(text, (begin, begin + len(signs), moved))


def read_shown(line):
    if not isinstance(line, str):
        raise NoLine("a line is a text")
    ahead = line.startswith(DOTS_AHEAD)
    behind = line.endswith(DOTS_BEHIND)
    begin = len(DOTS_AHEAD) if ahead else 0
    end = len(line) - len(DOTS_BEHIND) if behind else len(line)
    read = read_marks(line[begin:end])
    # Of a wrong line something is read, too: it is shown otherwise, if at all.
    try:
        again = shown_again(ahead, read[0], read[1], behind)
    except (BadText, BadSpan):
        raise NoLine("no piece is shown so") from None
    if again != line:
        raise NoLine("no piece is shown so")
    return (ahead, read[0], read[1], behind)
