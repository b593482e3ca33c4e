"""Books: texts under keys, numbered as they come, with the packed row of each word."""

from findhall.errors import NoText, Twice
from findhall.rows import packed_row, unpacked_row
from findhall.signs import is_key, need_key, need_number, need_text
from findhall.walks import Walk
from findhall.words import need_word, plain_words


def numbers_by_key(pairs):
    numbers = {}
    for key, text in pairs:
        need_key(key)
        need_text(text)
        if key in numbers:
            raise Twice("this key stood ahead")
        numbers[key] = len(numbers)
    return numbers


def places_by_word(words):
    places = {}
    for place, word in enumerate(words):
        places.setdefault(word, []).append(place)
    return places


def packed_rows(rows):
    packed = {}
    for word in rows:
        packed[word] = packed_row(rows[word])
    return packed


def rows_by_word(texts_words):
    rows = {}
    for number, words in enumerate(texts_words):
        places = places_by_word(words)
        for word in places:
            rows.setdefault(word, []).append((number, tuple(places[word])))
    return packed_rows(rows)


def copied_rows(rows):
    copies = {}
    for word in rows:
        copies[word] = list(rows[word])
    return copies


class Book:
    def __init__(self, pairs, rows=None):
        self.numbers = numbers_by_key(pairs)
        self.pairs = list(pairs)
        texts_words = [plain_words(text) for key, text in pairs]
        self.sizes = [len(words) for words in texts_words]
        self.rows = rows_by_word(texts_words) if rows is None else copied_rows(rows)
        self.rising = sorted(self.rows)

    def many(self):
        return len(self.pairs)

    def total(self):
        return sum(self.sizes)

    def need_own(self, number):
        return need_number(number, 0, self.many() - 1)

    def key_of(self, number):
        return self.pairs[self.need_own(number)][0]

    def text_of(self, number):
        return self.pairs[self.need_own(number)][1]

    def size_of(self, number):
        return self.sizes[self.need_own(number)]

    def number_of(self, key):
        # What is no key may be such that a dict can't be asked for it.
        if not is_key(key) or key not in self.numbers:
            raise NoText("no text has this key")
        return self.numbers[key]

    def words(self):
        return list(self.rising)

    def starts(self, word):
        need_word(word)
        return [longer for longer in self.rising if longer.startswith(word)]

    def parts_of(self, word):
        return list(self.rows.get(need_word(word), []))

    def row_of(self, word):
        return unpacked_row(self.parts_of(word))

    def walk_of(self, word):
        return Walk(self.parts_of(word))
