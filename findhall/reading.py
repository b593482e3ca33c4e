"""Lines that ask a question: they are parted into pieces, and the pieces are read from the left."""

from findhall.asks import JOINING, MOST_FAR, MOST_IN_ROW, ask_of
from findhall.errors import BadAsk, NoAsk
from findhall.signs import SMALL_SIGNS, need_text

MOST_BRACKETS = 12
# Which kinds of pieces may stand behind one of this kind. A line's begin is like that of a bracket; "leaf" is a word,
# a start or a row, and "near" such a one behind a "~"; "none" is a sign that begins no piece, "end" the line's end.
BEHIND = {
    "(": ("leaf", "not", "("),
    "not": ("leaf", "not", "("),
    "and": ("leaf", "not", "("),
    "or": ("leaf", "not", "("),
    "~": ("leaf",),
    "leaf": ("leaf", "not", "(", "and", "or", ")", "end", "~"),
    "near": ("leaf", "not", "(", "and", "or", ")", "end"),
    ")": ("leaf", "not", "(", "and", "or", ")", "end"),
}


# A piece that begins at some place is told as a tuple (kind, what it means, place behind it).


def no_piece(line):
    # Nothing behind such a sign is looked at.
    return ("none", None, len(line))


def end_of_row(line, begin):
    end = begin
    while end < len(line) and line[end] in SMALL_SIGNS:
        end += 1
    return end


def word_piece(line, begin):
    end = end_of_row(line, begin)
    word = line[begin:end]
    if line[end:end + 1] == "*":
        return ("leaf", ("start", word), end + 1)
    if word in JOINING:
        return (word, None, end)
    return ("leaf", ("word", word), end)


def far_piece(line, begin):
    end = end_of_row(line, begin + 1)
    for far in range(MOST_FAR + 1):
        if line[begin + 1:end] == str(far):
            return ("~", far, end)
    return no_piece(line)


def marked_piece(line, begin):
    end = line.find('"', begin + 1)
    if end < 0:
        return no_piece(line)
    signs = line[begin + 1:end]
    if not all([sign == " " or sign in SMALL_SIGNS for sign in signs]):
        return no_piece(line)
    words = signs.split()
    if len(words) == 0 or len(words) > MOST_IN_ROW:
        return no_piece(line)
    leaf = ("word", words[0]) if len(words) == 1 else ("row", tuple(words))
    return ("leaf", leaf, end + 1)


def piece_at(line, begin):
    sign = line[begin]
    if sign in SMALL_SIGNS:
        return word_piece(line, begin)
    if sign == "(" or sign == ")":
        return (sign, None, begin + 1)
    if sign == "~":
        return far_piece(line, begin)
    if sign == '"':
        return marked_piece(line, begin)
    return no_piece(line)


# Of a whole line the pieces are told as tuples (kind, what it means, its place), the line's end behind them.


def parted(line):
    found = []
    place = 0
    while place < len(line):
        if line[place] == " ":
            place += 1
        else:
            piece = piece_at(line, place)
            found.append((piece[0], piece[1], place))
            place = piece[2]
    found.append(("end", None, len(line)))
    return found


class Bracket:
    # What was read so far within a bracket, or in the line outside of all.

    def __init__(self):
        self.nots = 0
        self.by_and = None
        self.by_or = None

    def deny(self):
        self.nots += 1

    def take_in(self, told):
        for turn in range(self.nots):
            told = ("not", told)
        self.nots = 0
        self.by_and = told if self.by_and is None else ("both", self.by_and, told)

    def choose(self):
        self.by_or = self.by_and if self.by_or is None else ("either", self.by_or, self.by_and)
        self.by_and = None

    def whole(self):
        self.choose()
        return self.by_or


class Reader:
    # What is not closed yet is kept in a list: a line may lead deeper than calls within calls may.

    def __init__(self):
        self.brackets = [Bracket()]
        self.last = "("
        self.leaf = None
        self.far = None

    def lets(self, kind):
        if kind == "(" and len(self.brackets) > MOST_BRACKETS:
            return False
        if kind == ")" and len(self.brackets) == 1:
            return False
        if kind == "end" and len(self.brackets) > 1:
            return False
        return kind in BEHIND[self.last]

    def read_leaf(self, leaf):
        if self.last == "~":
            self.brackets[-1].take_in(("near", self.leaf, leaf, self.far))
            self.last = "near"
        else:
            self.leaf = leaf
            self.last = "leaf"

    def read_other(self, kind, meant):
        if kind == "~":
            self.far = meant
        elif kind == "not":
            self.brackets[-1].deny()
        elif kind == "or":
            self.brackets[-1].choose()
        elif kind == "(":
            self.brackets.append(Bracket())
        elif kind == ")":
            within = self.brackets.pop().whole()
            self.brackets[-1].take_in(within)
        self.last = kind

    def read(self, kind, meant):
        # A leaf is taken in when the next piece is known, as a "~" behind it would want it.
        if self.last == "leaf" and kind != "~":
            self.brackets[-1].take_in(self.leaf)
        if kind == "leaf":
            self.read_leaf(meant)
        else:
            self.read_other(kind, meant)

    def whole(self):
        return self.brackets[0].whole()


def read_ask(line):
    reader = Reader()
    for kind, meant, place in parted(need_text(line).lower()):
        if not reader.lets(kind):
            raise NoAsk(place)
        reader.read(kind, meant)
    try:
        return ask_of(reader.whole())
    except BadAsk:
        # Whatever is read this far is a question but for its size.
        raise NoAsk(len(line)) from None
