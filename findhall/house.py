"""The house: texts under keys in several books, and what is found in all of them."""

from findhall.books import Book, numbers_by_key
from findhall.errors import NoText, Twice
from findhall.finding import counted, spans_in, texts_in
from findhall.ordering import Best
from findhall.pieces import pieces_of
from findhall.pouring import poured
from findhall.showing import shown_line
from findhall.signs import is_key, need_key, need_number, need_text
from findhall.worth import worth_of


def poured_behind(volumes, last):
    # How many texts they have tells by itself which books pour, so that these are poured all at once.
    many = last.many()
    begin = len(volumes)
    while begin > 0 and many >= volumes[begin - 1].many():
        begin -= 1
        many += volumes[begin].many()
    return volumes[:begin] + [poured(volumes[begin:] + [last])]


def counts_by_key(volumes, leaf):
    counts = {}
    for book in volumes:
        for number, count in counted(book, leaf):
            counts[book.key_of(number)] = count
    return counts


class House:
    def __init__(self):
        self.volumes = []

    def place_of(self, key):
        # What is no key may be such that a dict can't be asked for it.
        if is_key(key):
            for place, book in enumerate(self.volumes):
                if key in book.numbers:
                    return place
        raise NoText("no text has this key")

    def has(self, key):
        try:
            self.place_of(key)
        except NoText:
            return False
        return True

    def put(self, key, text):
        need_key(key)
        need_text(text)
        if self.has(key):
            raise Twice("a text has this key")
        self.volumes = poured_behind(self.volumes, Book([(key, text)]))

    def take(self, key):
        place = self.place_of(key)
        book = self.volumes[place]
        number = book.number_of(key)
        self.volumes[place] = poured([book], [(0, number)])
        self.volumes = [one for one in self.volumes if one.many() > 0]
        return book.text_of(number)

    def text(self, key):
        book = self.volumes[self.place_of(key)]
        return book.text_of(book.number_of(key))

    def all_keys(self):
        keys = []
        for shelf in self.shelves():
            keys.extend([key for key, text in shelf])
        return sorted(keys)

    def many(self):
        return sum(self.books())

    def total(self):
        return sum([book.total() for book in self.volumes])

    def books(self):
        return [book.many() for book in self.volumes]

    def shelves(self):
        return [list(book.pairs) for book in self.volumes]

    def pour(self):
        if len(self.volumes) > 0:
            self.volumes = [poured(self.volumes)]

    def found(self, ask):
        keys = []
        for book in self.volumes:
            keys.extend([book.key_of(number) for number in texts_in(book, ask)])
        return sorted(keys)

    def ranked(self, ask, first=0, many=10):
        need_number(first, 0)
        need_number(many, 0)
        counts = [counts_by_key(self.volumes, leaf) for leaf in ask.leaves()]
        founds = [len(some) for some in counts]
        many_texts = self.many()
        total = self.total()
        best = Best(first + many)
        for book in self.volumes:
            for number in texts_in(book, ask):
                key = book.key_of(number)
                own = [some.get(key, 0) for some in counts]
                best.offer(key, worth_of(own, founds, book.size_of(number), many_texts, total))
        return best.told()[first:]

    def pieces(self, key, ask, around=3, most=3):
        need_number(around, 0)
        need_number(most, 0)
        book = self.volumes[self.place_of(key)]
        number = book.number_of(key)
        text = book.text_of(number)
        spans = spans_in(book, ask, number)
        return [shown_line(text, piece) for piece in pieces_of(text, spans, around, most)]


def house_of(shelves):
    pairs = []
    for shelf in shelves:
        pairs.extend(shelf)
    # All are looked at ahead, as one key may stand in two books.
    numbers_by_key(pairs)
    house = House()
    house.volumes = [Book(shelf) for shelf in shelves]
    return house
