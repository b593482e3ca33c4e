"""Questions: where they hold, how they are told as tuples and written as lines."""

from findhall.errors import BadAsk
from findhall.signs import is_whole
from findhall.words import is_word

LEAST_IN_ROW = 2
MOST_IN_ROW = 8
MOST_FAR = 20
MOST_DEEP = 8
MOST_IN_ALL = 40
# In a line these words join questions by themselves, so that between marks alone they are asked for.
JOINING = ("and", "or", "not")
# How long the tuple is that a question of this name is told as.
TOLD_LENGTHS = {"word": 2, "start": 2, "row": 2, "near": 4, "both": 3, "either": 3, "not": 2}


def each_once(spans):
    return sorted(set(spans))


def ends_by_begin(spans):
    ends = {}
    for begin, end in spans:
        ends.setdefault(begin, []).append(end)
    return ends


def spans_led_on(ones, others, far):
    ends = ends_by_begin(others)
    found = []
    for begin, end in ones:
        for next_begin in range(end + 1, end + far + 2):
            found.extend([(begin, last) for last in ends.get(next_begin, [])])
    return found


def in_brackets(ask):
    return "(" + ask.written() + ")"


class Ask:
    # What stands here is so for all questions that have none beneath.

    def kids(self):
        return []

    def leaves(self):
        return [self]

    def holds(self, words):
        return len(self.spans(words)) > 0


class Word(Ask):
    def __init__(self, word):
        self.word = word

    def told(self):
        return ("word", self.word)

    def written(self):
        return '"' + self.word + '"' if self.word in JOINING else self.word

    def spans(self, words):
        return [(place, place) for place, word in enumerate(words) if word == self.word]


class Start(Ask):
    def __init__(self, word):
        self.word = word

    def told(self):
        return ("start", self.word)

    def written(self):
        return self.word + "*"

    def spans(self, words):
        return [(place, place) for place, word in enumerate(words) if word.startswith(self.word)]


class Row(Ask):
    def __init__(self, words):
        self.side_by_side = tuple(words)

    def told(self):
        return ("row", self.side_by_side)

    def written(self):
        return '"' + " ".join(self.side_by_side) + '"'

    def spans(self, words):
        size = len(self.side_by_side)
        found = []
        for begin in range(len(words) - size + 1):
            if tuple(words[begin:begin + size]) == self.side_by_side:
                found.append((begin, begin + size - 1))
        return found


class Near(Ask):
    def __init__(self, one, other, far):
        self.one = one
        self.other = other
        self.far = far

    def told(self):
        return ("near", self.one.told(), self.other.told(), self.far)

    def written(self):
        return self.one.written() + " ~" + str(self.far) + " " + self.other.written()

    def kids(self):
        return [self.one, self.other]

    def spans(self, words):
        ones = self.one.spans(words)
        others = self.other.spans(words)
        return each_once(spans_led_on(ones, others, self.far) + spans_led_on(others, ones, self.far))


class Both(Ask):
    def __init__(self, one, other):
        self.one = one
        self.other = other

    def told(self):
        return ("both", self.one.told(), self.other.told())

    def written(self):
        # Several are led from the left, so that what is joined alike needs brackets on the right alone.
        one = in_brackets(self.one) if isinstance(self.one, Either) else self.one.written()
        other = in_brackets(self.other) if isinstance(self.other, (Both, Either)) else self.other.written()
        return one + " and " + other

    def kids(self):
        return [self.one, self.other]

    def leaves(self):
        return self.one.leaves() + self.other.leaves()

    def holds(self, words):
        return self.one.holds(words) and self.other.holds(words)

    def spans(self, words):
        return each_once(self.one.spans(words) + self.other.spans(words))


class Either(Ask):
    def __init__(self, one, other):
        self.one = one
        self.other = other

    def told(self):
        return ("either", self.one.told(), self.other.told())

    def written(self):
        other = in_brackets(self.other) if isinstance(self.other, Either) else self.other.written()
        return self.one.written() + " or " + other

    def kids(self):
        return [self.one, self.other]

    def leaves(self):
        return self.one.leaves() + self.other.leaves()

    def holds(self, words):
        return self.one.holds(words) or self.other.holds(words)

    def spans(self, words):
        return each_once(self.one.spans(words) + self.other.spans(words))


class Not(Ask):
    def __init__(self, one):
        self.one = one

    def told(self):
        return ("not", self.one.told())

    def written(self):
        one = in_brackets(self.one) if isinstance(self.one, (Both, Either)) else self.one.written()
        return "not " + one

    def kids(self):
        return [self.one]

    def leaves(self):
        return []

    def holds(self, words):
        return not self.one.holds(words)

    def spans(self, words):
        return []


def need_name(told):
    if not isinstance(told, tuple) or len(told) == 0 or not isinstance(told[0], str):
        raise BadAsk("a question is told as a tuple with a name ahead")
    if TOLD_LENGTHS.get(told[0]) != len(told):
        raise BadAsk("no question of so many is told by this name")
    return told[0]


def asked_word(thing):
    if not is_word(thing):
        raise BadAsk("this is no word")
    return thing


def asked_row(thing):
    if not isinstance(thing, tuple) or len(thing) < LEAST_IN_ROW or len(thing) > MOST_IN_ROW:
        raise BadAsk("a row is a tuple of two to eight words")
    return Row([asked_word(word) for word in thing])


def asked_near(one, other, far):
    for ask in (one, other):
        if not isinstance(ask, (Word, Start, Row)):
            raise BadAsk("only words, starts and rows stand near one another")
    if not is_whole(far) or far < 0 or far > MOST_FAR:
        raise BadAsk("no two stand near by so many words")
    return Near(one, other, far)


def ask_within(told, deep):
    # The bound is looked at on the way down: a tuple may be far deeper than calls may be.
    if deep == 0:
        raise BadAsk("this question is too deep")
    name = need_name(told)
    if name == "word":
        return Word(asked_word(told[1]))
    if name == "start":
        return Start(asked_word(told[1]))
    if name == "row":
        return asked_row(told[1])
    one = ask_within(told[1], deep - 1)
    if name == "not":
        return Not(one)
    other = ask_within(told[2], deep - 1)
    if name == "near":
        return asked_near(one, other, told[3])
    return Both(one, other) if name == "both" else Either(one, other)


def many_in(ask):
    return 1 + sum([many_in(kid) for kid in ask.kids()])


def ask_of(told):
    ask = ask_within(told, MOST_DEEP)
    if many_in(ask) > MOST_IN_ALL:
        raise BadAsk("this question is too great")
    return ask
