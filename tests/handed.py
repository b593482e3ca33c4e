"""What several tests hand in, and how they look at refusals, at books, at questions and at houses."""
import re
import unittest
from fractions import Fraction

from findhall.asks import Both, Either, Near, Not, Row, Start, Word
from findhall.errors import HallError
from findhall.rows import packed_row
from findhall.walks import Walk

# Python itself writes no number that is so great.
GREAT_NUMBER = 10 ** 5000


class Thing:
    """A thing that lets nobody look at it."""

    def fail(self, *others):
        raise RuntimeError("this was looked at")

    __eq__ = __lt__ = __gt__ = __len__ = __iter__ = __bool__ = __repr__ = __str__ = __hash__ = fail


def no_whole_numbers():
    return [
        True, False, None, "", "1", "a", [], [1], (), (1,), (1, 2), {}, {1: 1}, {1}, 1.0, 0.0, b"", b"1", object(),
        Thing(), len, int, range(3),
    ]


def no_lists():
    return [
        None, 0, 1, 5, -1, 255, GREAT_NUMBER, True, False, "", "5", "abc", (), (5,), (172, 2), (0, 0, 0), ((2, (0,)),),
        {}, {5: 5}, {0: 5}, {2: (0, 3)}, {5}, 1.5, b"", b"\x05", b"\x00\x00\x00", bytearray(b"\x05"), range(3),
        iter([0, 0, 0]), iter([(2, (0,))]), object(), Thing(), list, len,
    ]


def no_strs():
    return [
        None, True, False, 0, 1, -1, GREAT_NUMBER, 1.5, [], ["a"], ["a", "b"], (), ("a",), ("a", "b"), {}, {"a": "a"},
        {"a"}, b"", b"a", object(), Thing(), len, str, range(3),
    ]


def no_words():
    return no_strs() + [
        "", " ", "A", "aB", "a b", " a", "a ", "a-b", "a*", '"a"', "a\n", "a\t", "~", "a" * 2001, "B" * 2000,
    ]


def no_keys():
    return no_strs() + ["", "a" * 13, "A", "aB", "a b", " a", "a ", "a-b", "a\n", "a\t", "~", "b" * 2000]


def no_texts():
    return no_strs() + ["\t", "a\tb", "a" * 2001, " " * 2001, "\n" * 2001]


def looked_words(text):
    """The words of a text by another way than the program's own, to be compared with it."""
    return [word.lower() for word in re.findall("[A-Za-z0-9]+", text)]


def looked_row(pairs, word):
    """The row of a word by a look at every text, word by word."""
    row = []
    for number, (key, text) in enumerate(pairs):
        places = tuple(place for place, one in enumerate(looked_words(text)) if one == word)
        if places:
            row.append((number, places))
    return row


def built(told):
    """The question that is told so, made by the classes alone."""
    name, *within = told
    if name == "word":
        return Word(*within)
    if name == "start":
        return Start(*within)
    if name == "row":
        return Row(*within)
    if name == "near":
        return Near(built(within[0]), built(within[1]), within[2])
    made = [built(one) for one in within]
    return Both(*made) if name == "both" else Either(*made) if name == "either" else Not(*made)


def deep_of(told):
    return 1 + max([deep_of(one) for one in beneath(told)], default=0)


def many_of(told):
    return 1 + sum(many_of(one) for one in beneath(told))


def beneath(told):
    return [] if told[0] in ("word", "start", "row") else [one for one in told[1:] if isinstance(one, tuple)]


def chance_leaf(chance, words):
    name = chance.choice(("word", "word", "start", "row"))
    if name == "row":
        return ("row", tuple(chance.choice(words) for turn in range(chance.choice((2, 2, 3, 8)))))
    return (name, chance.choice(words))


def chance_told(chance, words, deep):
    """A told question, no deeper than that, with just these words in it."""
    name = chance.choice(("word", "near", "both", "both", "either", "either", "not"))
    if deep == 1 or name == "word":
        return chance_leaf(chance, words)
    if name == "near":
        far = chance.choice((0, 1, 2, 3, 20))
        return ("near", chance_leaf(chance, words), chance_leaf(chance, words), far)
    if name == "not":
        return ("not", chance_told(chance, words, deep - 1))
    return (name, chance_told(chance, words, deep - 1), chance_told(chance, words, deep - 1))


def in_nots(told, many):
    for turn in range(many):
        told = ("not", told)
    return told


def balanced(many, name="both"):
    """So many words, half and half joined: 2 * many - 1 questions, as deep as need be alone."""
    if many == 1:
        return ("word", "a")
    return (name, balanced((many + 1) // 2, name), balanced(many // 2, name))


def pairs_of_spans(told, words):
    one, other, far = told[1:]
    for first in looked_spans(one, words):
        for second in looked_spans(other, words):
            ones, others = set(range(first[0], first[1] + 1)), set(range(second[0], second[1] + 1))
            low, high = sorted((ones, others), key=min)
            between = [place for place in range(len(words)) if max(low) < place < min(high)]
            if not ones & others and len(between) <= far:
                yield (min(ones | others), max(ones | others))


def looked_spans(told, words):
    """The spans by the words of the document, looked for at every place, to be compared with the program."""
    name = told[0]
    everywhere = [(begin, end) for begin in range(len(words)) for end in range(begin, len(words))]
    if name == "word":
        return [(begin, end) for begin, end in everywhere if words[begin:end + 1] == [told[1]]]
    if name == "start":
        return [(place, place) for place, word in enumerate(words) if word[:len(told[1])] == told[1]]
    if name == "row":
        return [(begin, end) for begin, end in everywhere if words[begin:end + 1] == list(told[1])]
    if name == "near":
        return sorted(set(pairs_of_spans(told, words)))
    if name == "not":
        return []
    return sorted(set(looked_spans(told[1], words) + looked_spans(told[2], words)))


def looked_holds(told, words):
    if told[0] == "not":
        return not looked_holds(told[1], words)
    if told[0] == "both":
        return all(looked_holds(one, words) for one in told[1:])
    if told[0] == "either":
        return any(looked_holds(one, words) for one in told[1:])
    return looked_spans(told, words) != []


def looked_leaves(told):
    if told[0] in ("both", "either"):
        return looked_leaves(told[1]) + looked_leaves(told[2])
    return [] if told[0] == "not" else [told]


def groups(places):
    """Longest rows of neighbours among places, as spans."""
    found = []
    for place in sorted(places):
        if place - 1 in places:
            found[-1] = (found[-1][0], place)
        else:
            found.append((place, place))
    return found


def looked_line(text, window, marked):
    """The line of the piece from word to word, those at the marked places within marks, looked at sign by sign."""
    words = [match.span() for match in re.finditer("[A-Za-z0-9]+", text)]
    opened = [words[first][0] for first, last in groups(marked)]
    closed = [words[last][1] for first, last in groups(marked)]
    line = "... " if window[0] > 0 else ""
    for place in range(words[window[0]][0], words[window[1]][1] + 1):
        line += "]" if place in closed else ""
        line += "[" if place in opened else ""
        if place < words[window[1]][1]:
            line += {"[": r"\[", "]": r"\]", "\\": r"\\", "\n": r"\n"}.get(text[place], text[place])
    return line + (" ..." if window[1] + 1 < len(words) else "")


def looked_lines(text, spans, around, most):
    size = len(looked_words(text))
    marked = {place for begin, end in spans for place in range(begin, end + 1)}
    near = {place for place in range(size) if any(abs(place - mark) <= around for mark in marked)}
    return [
        looked_line(text, (begin, end), {place for place in marked if begin <= place <= end})
        for begin, end in groups(near)
    ][:most]


class PlainHouse:
    """A house that looks through all its texts word by word, to be compared with the program."""

    def __init__(self, shelves=()):
        self.shelves = [list(shelf) for shelf in shelves]

    def pairs(self):
        return [pair for shelf in self.shelves for pair in shelf]

    def put(self, key, text):
        self.shelves.append([(key, text)])
        while len(self.shelves) > 1 and len(self.shelves[-1]) >= len(self.shelves[-2]):
            last = self.shelves.pop()
            self.shelves[-1] += last

    def take(self, key):
        shelves = [[pair for pair in shelf if pair[0] != key] for shelf in self.shelves]
        self.shelves = [shelf for shelf in shelves if shelf]

    def pour(self):
        self.shelves = [self.pairs()] if self.shelves else []

    def found(self, told):
        return sorted(key for key, text in self.pairs() if looked_holds(told, looked_words(text)))

    def worth(self, told, key):
        texts = {one: looked_words(text) for one, text in self.pairs()}
        many, total, size = len(texts), sum(len(words) for words in texts.values()), len(texts[key])
        worth = Fraction(0)
        for leaf in looked_leaves(told):
            counts = {one: len(looked_spans(leaf, words)) for one, words in texts.items()}
            count, found = counts[key], sum(1 for one in counts.values() if one)
            if count:
                share = Fraction(2 * count * total, (count + 1) * total + size * many)
                worth += share * Fraction(many + 1, found + 1)
        return worth

    def ranked(self, told):
        rows = [(key, self.worth(told, key)) for key in self.found(told)]
        return [(key, (worth.numerator, worth.denominator)) for key, worth in sorted(
            rows, key=lambda row: (-row[1], row[0]))]

    def pieces(self, key, told, around=3, most=3):
        text = dict(self.pairs())[key]
        return looked_lines(text, looked_spans(told, looked_words(text)), around, most)


class PlainDesk:
    """A desk over a plain house. It is given lines that were parted already."""

    def __init__(self, shelves=()):
        self.house = PlainHouse(shelves)
        self.asked = None
        self.place = 0

    def next_rows(self):
        lines = []
        for key, (above, below) in self.house.ranked(self.asked)[self.place:self.place + 10]:
            lines.append(f"{key} {above}" if below == 1 else f"{key} {above}/{below}")
            lines += ["> " + line for line in self.house.pieces(key, self.asked)]
            self.place += 1
        return lines

    def put(self, key, text):
        if key in dict(self.house.pairs()):
            return ["twice"]
        self.house.put(key, text)
        return ["done"]

    def take(self, key):
        if key not in dict(self.house.pairs()):
            return ["no text"]
        self.house.take(key)
        return ["done"]

    def show(self, key):
        text = dict(self.house.pairs()).get(key)
        return ["no text"] if text is None else [text.replace("\\", "\\\\").replace("\n", "\\n")]

    def keys(self):
        return sorted(dict(self.house.pairs())) or ["nothing"]

    def books(self):
        return [" ".join(str(len(shelf)) for shelf in self.house.shelves) or "nothing"]

    def pour(self):
        self.house.pour()
        return ["done"]

    def ask(self, told):
        self.asked, self.place = told, 0
        return [f"{len(self.house.found(told))} found"] + self.next_rows()

    def more(self):
        return ["no question"] if self.asked is None else self.next_rows() or ["no more"]


def chance_line(chance):
    """A line for a desk, and what is called for it at a plain one, a name and what is handed in."""
    words = ("a", "b", "ab", "the", "cat")
    name = chance.choice(
        ("put", "put", "put", "put", "take", "show", "keys", "books", "pour", "ask", "ask", "more", "more", "more"))
    key = "k" + str(chance.randrange(14))
    if name == "put":
        signs = (" ", ", ", "\n", " [", "] ", "\\")
        text = "".join(chance.choice(words) + chance.choice(signs) for word in range(chance.choice((0, 1, 2, 5, 9))))
        return "put " + key + " " + text.replace("\\", "\\\\").replace("\n", "\\n"), name, (key, text)
    if name in ("take", "show"):
        return name + " " + key, name, (key,)
    if name == "ask":
        told = chance_told(chance, words, chance.choice((1, 2, 3)))
        return "ask " + built(told).written(), name, (told,)
    return name, name, ()


class RefusalCase(unittest.TestCase):
    def check_refused(self, refusal, call, *handed):
        with self.assertRaises(HallError) as caught:
            call(*handed)
        self.assertIs(type(caught.exception), refusal)
        self.assertIsInstance(caught.exception, ValueError)

    def check_list(self, told, wanted):
        self.assertIs(type(told), list)
        self.assertEqual(told, wanted)


class BookCase(RefusalCase):
    def check_walk(self, walk, row):
        self.assertIs(type(walk), Walk)
        self.assertEqual(walk.rest(), row)
        for pair in row:
            self.assertEqual(walk.pair(), pair)
            walk.step()
        self.assertIs(walk.pair(), None)

    def check_texts(self, book, pairs):
        for number, (key, text) in enumerate(pairs):
            self.assertEqual(book.key_of(number), key)
            self.assertEqual(book.text_of(number), text)
            self.assertEqual(book.size_of(number), len(looked_words(text)))
            self.assertEqual(book.number_of(key), number)
        for told in (book.many(), book.total()) + tuple(book.number_of(key) for key, text in pairs):
            self.assertIs(type(told), int)
        self.assertEqual(book.many(), len(pairs))
        self.assertEqual(book.total(), sum(len(looked_words(text)) for key, text in pairs))

    def check_row(self, book, pairs, word):
        row = looked_row(pairs, word)
        self.check_list(book.row_of(word), row)
        self.check_list(book.parts_of(word), packed_row(row))
        self.check_walk(book.walk_of(word), row)

    def check_book(self, book, pairs, others=("zzz", "0", "and")):
        """The book tells all that a look at all texts of the pairs, word by word, tells."""
        self.check_texts(book, pairs)
        words = sorted({word for key, text in pairs for word in looked_words(text)})
        self.check_list(book.words(), words)
        for word in words + list(others):
            self.check_row(book, pairs, word)
            for begin in {word, word[:1], word[:2], word[:-1] or "x", word[:1999] + "0"}:
                self.check_list(book.starts(begin), [one for one in words if one.startswith(begin)])


class HouseCase(RefusalCase):
    def check_house(self, house, plain):
        """The house tells of its texts and its books what the plain one has."""
        texts = dict(plain.pairs())
        self.check_list(house.all_keys(), sorted(texts))
        self.check_list(house.books(), [len(shelf) for shelf in plain.shelves])
        self.check_list(house.shelves(), plain.shelves)
        for shelf in house.shelves():
            self.assertIs(type(shelf), list)
            self.assertEqual({type(pair) for pair in shelf}, {tuple})
        for key, text in texts.items():
            self.assertIs(house.has(key), True)
            self.assertEqual(house.text(key), text)
        self.assertEqual((house.many(), type(house.many())), (len(texts), int))
        total = sum(len(looked_words(text)) for text in texts.values())
        self.assertEqual((house.total(), type(house.total())), (total, int))

    def check_asked(self, house, plain, told):
        """Whatever is asked is answered as a look at each text of the plain one does."""
        ask = built(told)
        ranked = plain.ranked(told)
        self.check_list(house.found(ask), plain.found(told))
        self.check_list(house.ranked(ask), ranked[:10])
        self.check_list(house.ranked(ask, 0, len(ranked) + 1), ranked)
        for key, worth in house.ranked(ask):
            self.assertEqual([type(part) for part in worth], [int, int])
        for key, text in plain.pairs():
            self.check_list(house.pieces(key, ask), plain.pieces(key, told))
        self.assertEqual(ask.told(), told)
