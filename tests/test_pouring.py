import inspect
import itertools
import random
import unittest

from findhall.books import Book
from findhall.errors import BadNumber, Twice
from findhall.pouring import poured
from handed import GREAT_NUMBER, BookCase, Thing, no_whole_numbers

SHELVES = [
    [("b", "The cat, the dog"), ("a", ""), ("k1", "Dogs and cats")],
    [],
    [("abcdefghij12", "cat the CAT")],
    [("c", "-"), ("d", "the end - The"), ("e", "only9 here"), ("f", "cat")],
]


def books_of(shelves):
    return [Book(pairs) for pairs in shelves]


def all_texts(shelves):
    return [(place, number) for place, pairs in enumerate(shelves) for number in range(len(pairs))]


def left_of(shelves, gone):
    return [shelves[place][number] for place, number in all_texts(shelves) if (place, number) not in gone]


def no_gone_ones():
    """What is no tuple of a place and a number, whatever books there are."""
    wrong = [thing for thing in no_whole_numbers() if not isinstance(thing, tuple)]
    return wrong + [
        0, 1, -1, [0, 0], "00", {0: 0}, (), (0,), (0, 0, 0), (0, 0, None), ((0, 0),), ((0, 0), (0, 0)), [(0, 0)],
    ]


class PouringCase(BookCase):
    def check_poured(self, shelves, gone=()):
        books = books_of(shelves)
        handed_books, handed_gone = list(books), list(gone)
        book = poured(handed_books, handed_gone)
        left = left_of(shelves, gone)
        self.assertIs(type(book), Book)
        self.check_book(book, left)
        self.check_like(book, Book(left))
        self.assertEqual(handed_gone, list(gone))
        self.assertEqual(len(handed_books), len(books))
        for one, other, pairs in zip(handed_books, books, shelves):
            self.assertIs(one, other)
            self.check_book(one, pairs)
        return book

    def check_like(self, one, other):
        self.assertEqual(one.many(), other.many())
        self.assertEqual(one.total(), other.total())
        self.assertEqual(one.words(), other.words())
        for number in range(one.many()):
            self.assertEqual(one.key_of(number), other.key_of(number))
            self.assertEqual(one.text_of(number), other.text_of(number))
            self.assertEqual(one.size_of(number), other.size_of(number))
        for word in one.words() + ["zzz"]:
            self.assertEqual(one.parts_of(word), other.parts_of(word))
            self.assertEqual(one.row_of(word), other.row_of(word))
            self.assertEqual(one.walk_of(word).rest(), other.walk_of(word).rest())
            self.assertEqual(one.starts(word), other.starts(word))


class PouredTest(PouringCase):
    def test_no_book(self):
        self.check_poured([])
        self.check_book(poured([]), [])
        self.check_book(poured([], None), [])

    def test_one_book(self):
        for pairs in SHELVES:
            self.check_poured([pairs])

    def test_several_books(self):
        for many in range(len(SHELVES) + 1):
            for shelves in itertools.permutations(SHELVES, many):
                self.check_poured(list(shelves))

    def test_books_without_texts(self):
        self.check_poured([[], [], []])
        self.check_poured([[], SHELVES[0], []])

    def test_by_hand(self):
        book = poured(books_of([[("b", "x y"), ("a", "y")], [("c", "y x y"), ("d", "z")]]), [(0, 1), (1, 1)])
        self.assertEqual([book.key_of(number) for number in range(book.many())], ["b", "c"])
        self.assertEqual(book.words(), ["x", "y"])
        self.assertEqual(book.row_of("y"), [(0, (1,)), (1, (0, 2))])
        self.assertEqual(book.parts_of("y"), [0, 0, 1, 0, 1, 0, 1])
        self.assertEqual(book.row_of("z"), [])
        self.assertEqual(book.total(), 5)

    def test_nothing_gone(self):
        books = books_of(SHELVES)
        left = left_of(SHELVES, [])
        self.check_book(poured(books), left)
        self.check_book(poured(books, None), left)
        self.check_book(poured(books, []), left)

    def test_each_text_gone(self):
        for one in all_texts(SHELVES):
            self.check_poured(SHELVES, [one])
            self.check_poured(SHELVES, [one, one])
            self.check_poured(SHELVES, [one, (3, 0), one, (3, 0), one])

    def test_each_two_texts_gone(self):
        for one, other in itertools.permutations(all_texts(SHELVES), 2):
            self.check_poured(SHELVES, [one, other])

    def test_all_gone(self):
        self.check_poured(SHELVES, all_texts(SHELVES))
        self.check_poured(SHELVES, all_texts(SHELVES)[::-1] * 2)
        self.check_poured([SHELVES[0]], all_texts(SHELVES[:1]))

    def test_all_but_one_gone(self):
        for kept in all_texts(SHELVES):
            self.check_poured(SHELVES, [one for one in all_texts(SHELVES) if one != kept])

    def test_all_of_one_book_gone(self):
        for place in range(len(SHELVES)):
            self.check_poured(SHELVES, [one for one in all_texts(SHELVES) if one[0] == place])

    def test_poured_once_more(self):
        first = poured(books_of(SHELVES[:2]), [(0, 1)])
        second = poured([Book([("x", "the x")]), first, Book(SHELVES[3])], [(1, 0), (2, 1)])
        self.check_book(first, [SHELVES[0][0], SHELVES[0][2]])
        left = [("x", "the x"), SHELVES[0][2], SHELVES[3][0], SHELVES[3][2], SHELVES[3][3]]
        self.check_book(second, left)
        self.check_like(second, Book(left))
        third = poured([second, first], [(0, 1), (0, 1)])
        left = left[:1] + left[2:] + [SHELVES[0][0], SHELVES[0][2]]
        self.check_book(third, left)
        self.check_like(third, Book(left))

    def test_one_by_one(self):
        book = poured([])
        pairs = []
        for number in range(140):
            pair = ("t" + str(number), "all W" + str(number) + " w" + str(number // 2))
            book = poured([book, Book([pair])])
            pairs.append(pair)
        self.check_book(book, pairs)
        self.check_like(book, Book(pairs))

    def test_many_chances(self):
        # The seed is fixed, so that each run pours the same books.
        chance = random.Random(5)
        for turn in range(40):
            keys = ["k" + str(number) for number in range(30)]
            chance.shuffle(keys)
            shelves = []
            for place in range(chance.randrange(5)):
                shelves.append([
                    (keys.pop(), " ".join(chance.choice("abcdABCD") for word in range(chance.randrange(9))))
                    for text in range(chance.randrange(6))
                ])
            gone = [one for one in all_texts(shelves) if chance.randrange(3) == 0]
            self.check_poured(shelves, gone + chance.sample(gone, len(gone) // 2))

    def test_the_arguments_have_their_names(self):
        book = poured(books=books_of(SHELVES), gone=[(0, 0)])
        self.assertEqual(book.many(), len(left_of(SHELVES, [(0, 0)])))
        self.assertEqual(str(inspect.signature(poured)), "(books, gone=None)")


class RefusedTest(PouringCase):
    def check_books_stay(self, books, shelves):
        for book, pairs in zip(books, shelves):
            self.check_book(book, pairs)

    def test_one_key_in_two_books(self):
        shelves = [[("a", "x"), ("b", "y")], [("c", "z")], [("d", ""), ("b", "other")]]
        books = books_of(shelves)
        for gone in (None, [], [(0, 0)], [(2, 0), (1, 0)]):
            self.check_refused(Twice, poured, books, gone)
        self.check_refused(Twice, poured, books)
        self.check_books_stay(books, shelves)
        self.check_poured(shelves, [(0, 1)])
        self.check_poured(shelves, [(2, 1)])
        self.check_poured(shelves, [(0, 1), (2, 1)])

    def test_one_book_twice(self):
        book = Book(SHELVES[0])
        self.check_refused(Twice, poured, [book, book])
        self.check_refused(Twice, poured, [book, book], [(0, 0), (0, 1), (1, 0)])
        made = poured([book, book], [(0, 0), (0, 2), (1, 1)])
        self.check_book(made, [SHELVES[0][1], SHELVES[0][0], SHELVES[0][2]])
        self.check_book(book, SHELVES[0])
        empty = Book([])
        self.check_book(poured([empty, empty]), [])

    def test_what_is_no_such_tuple(self):
        books = books_of(SHELVES)
        for thing in no_gone_ones():
            for gone in ([thing], [(0, 0), thing], [thing, (0, 0)], [(0, 1), (3, 2), thing, (2, 0)]):
                self.check_refused(BadNumber, poured, books, gone)
        self.check_books_stay(books, SHELVES)

    def test_places_that_are_none(self):
        books = books_of(SHELVES)
        for place in no_whole_numbers() + [-1, -4, 4, 5, GREAT_NUMBER, -GREAT_NUMBER]:
            self.check_refused(BadNumber, poured, books, [(place, 0)])
            self.check_refused(BadNumber, poured, books, [(0, 0), (place, 0)])
            self.check_refused(BadNumber, poured, books, [(place, Thing())])
        for thing in no_gone_ones() + [(0, 0), (-1, 0)]:
            self.check_refused(BadNumber, poured, [], [thing])

    def test_numbers_that_are_none(self):
        books = books_of(SHELVES)
        for place, pairs in enumerate(SHELVES):
            many = len(pairs)
            for number in no_whole_numbers() + [-1, -2, many, many + 1, GREAT_NUMBER, -GREAT_NUMBER]:
                self.check_refused(BadNumber, poured, books, [(place, number)])
                self.check_refused(BadNumber, poured, books, [(0, 0), (0, 0), (place, number)])
        self.check_books_stay(books, SHELVES)

    def test_a_number_that_another_book_has(self):
        books = books_of(SHELVES)
        self.check_refused(BadNumber, poured, books, [(2, 1)])
        self.check_refused(BadNumber, poured, books, [(1, 0)])
        self.check_refused(BadNumber, poured, books, [(0, 3)])
        self.check_poured(SHELVES, [(3, 3)])

    def test_a_wrong_number_comes_ahead_of_a_key_twice(self):
        books = books_of([[("a", "x")], [("a", "y")]])
        for thing in no_gone_ones() + [(0, 1), (2, 0), (0, True), (None, 0)]:
            self.check_refused(BadNumber, poured, books, [thing])
            self.check_refused(BadNumber, poured, books, [(0, 0), thing])
        self.check_refused(Twice, poured, books)

    def test_the_refused_list_stays(self):
        gone = [(0, 0), (0, 9), (1, 1)]
        self.check_refused(BadNumber, poured, books_of(SHELVES), gone)
        self.assertEqual(gone, [(0, 0), (0, 9), (1, 1)])


class OwnTest(PouringCase):
    def test_the_lists_are_changed_behind_the_call(self):
        books, gone = books_of(SHELVES), [(0, 0), (3, 1)]
        book = poured(books, gone)
        left = left_of(SHELVES, gone)
        gone.clear()
        books[0] = Book([("z", "zzz")])
        self.check_book(book, left)
        books.clear()
        self.check_book(book, left)

    def test_told_lists_are_changed(self):
        books = books_of(SHELVES)
        book = poured(books, [(0, 1)])
        left = left_of(SHELVES, [(0, 1)])
        for one in [book] + books:
            one.words().clear()
            for word in ("the", "cat", "zzz"):
                one.parts_of(word).append(9)
                one.parts_of(word).clear()
                one.row_of(word).clear()
                one.starts(word).append("more")
                one.walk_of(word).step()
        self.check_book(book, left)
        for one, pairs in zip(books, SHELVES):
            self.check_book(one, pairs)


if __name__ == "__main__":
    unittest.main()
