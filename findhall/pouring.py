"""Books poured together into one, without the texts that are gone."""

from findhall.books import Book, packed_rows
from findhall.errors import BadNumber
from findhall.signs import need_number


def need_gone(books, gone):
    found = {}
    for thing in gone:
        if not isinstance(thing, tuple) or len(thing) != 2:
            raise BadNumber("this is no tuple of a book's place and a text's number")
        book = books[need_number(thing[0], 0, len(books) - 1)]
        need_number(thing[1], 0, book.many() - 1)
        found[thing] = True
    return found


def pour_rows(rows, book, new_numbers):
    for word in book.words():
        for number, places in book.row_of(word):
            if number in new_numbers:
                rows.setdefault(word, []).append((new_numbers[number], places))


def poured(books, gone=None):
    without = need_gone(books, [] if gone is None else gone)
    pairs = []
    rows = {}
    for place, book in enumerate(books):
        new_numbers = {}
        for number in range(book.many()):
            if (place, number) not in without:
                new_numbers[number] = len(pairs)
                pairs.append((book.key_of(number), book.text_of(number)))
        pour_rows(rows, book, new_numbers)
    return Book(pairs, packed_rows(rows))
