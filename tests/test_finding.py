import inspect
import itertools
import random
import unittest

from findhall.asks import Both, Either, Near, Not, Row, Start, Word
from findhall.books import Book
from findhall.errors import BadNumber
from findhall.finding import counted, spans_in, texts_in
from findhall.pouring import poured
from handed import (
    GREAT_NUMBER, BookCase, built, chance_told, in_nots, looked_holds, looked_spans, looked_words, no_whole_numbers,
)

# Ninety-five words that come round again and again, now and then without one of them.
LONG = " ".join(
    ("a", "b", "c9", "Ab", "x", "The", "cat")[(place + place // 9) % 7] + "," * (place % 3) for place in range(95))
PAIRS = [
    ("k3", "A b, the CAT!"), ("k1", ""), ("z", "a a a a a"), ("m", "-.- ~ \n"), ("k2", LONG), ("a", "b"),
    ("t9", "The cat\nand the dog: b a"), ("abcdefghij12", "ab abc x"),
]
A, B, START, ROW = ("word", "a"), ("word", "b"), ("start", "a"), ("row", ("the", "cat"))
LEAVES = [
    A, B, ("word", "cat"), ("word", "c9"), ("word", "abc"), ("word", "zzz"), ("word", "and"), START, ("start", "ab"),
    ("start", "ca"), ("start", "c9"), ("start", "zz"), ("start", "abcd"), ROW, ("row", ("a", "a")), ("row", ("b", "a")),
    ("row", ("a", "a", "a")), ("row", ("a",) * 8), ("row", ("zz", "a")), ("row", ("cat", "and", "the", "dog")),
    ("near", A, B, 0), ("near", A, B, 1), ("near", A, A, 3), ("near", START, ROW, 2), ("near", ROW, ("word", "dog"), 2),
    ("near", ROW, ("word", "dog"), 1), ("near", B, ("word", "zzz"), 20), ("near", ("row", ("a", "a")), A, 20),
]
SIDES = [A, ("start", "ab"), ROW, ("near", A, B, 1), ("not", B), ("not", ("not", START))]
JOINED = [(name, one, other) for name in ("both", "either") for one in SIDES for other in SIDES]
DENIED = [("not", one) for one in LEAVES + JOINED]
# They hold of no text, of all, of just those without words.
NOTHING = ("both", A, ("not", A))
ALWAYS = ("either", A, ("not", A))
NO_WORDS = ("not", ("either", ("start", "a"), ("either", ("start", "b"), ("start", "t"))))


class FindingCase(BookCase):
    def check_found(self, book, pairs, told):
        """What is found is what a look at the words of each text finds."""
        ask = built(told)
        wanted = [number for number, (key, text) in enumerate(pairs) if looked_holds(told, looked_words(text))]
        self.check_list(texts_in(book, ask), wanted)
        spans = [looked_spans(told, looked_words(text)) for key, text in pairs]
        for number in range(len(pairs)):
            self.check_list(spans_in(book, ask, number), spans[number])
            self.check_tuples(spans_in(book, ask, number))
        if told[0] in ("word", "start", "row", "near"):
            self.check_list(counted(book, ask), [(at, len(some)) for at, some in enumerate(spans) if some])
            self.check_tuples(counted(book, ask))
        self.assertEqual(ask.told(), told)

    def check_tuples(self, told):
        for one in told:
            self.assertIs(type(one), tuple)
            self.assertEqual([type(number) for number in one], [int, int])

    def all_told(self, book, ask):
        spans = [spans_in(book, ask, number) for number in range(book.many())]
        return texts_in(book, ask), spans, counted(book, ask) if ask.leaves() == [ask] else None


class TextsTest(FindingCase):
    def test_some_by_hand(self):
        book = Book(PAIRS)
        for told, wanted in (
            (A, [0, 2, 4, 6]), (B, [0, 4, 5, 6]), (("word", "zzz"), []), (START, [0, 2, 4, 6, 7]),
            (("start", "abc"), [7]), (("word", "ab"), [4, 7]), (ROW, [0, 4, 6]), (("row", ("cat", "the")), []),
            (("near", B, ("word", "dog"), 0), [6]), (("near", B, ("word", "cat"), 0), [4]),
            (("near", B, ("word", "cat"), 1), [0, 4]), (("near", B, ("word", "cat"), 3), [0, 4, 6]),
            (("both", A, B), [0, 4, 6]), (("either", A, B), [0, 2, 4, 5, 6]), (("not", A), [1, 3, 5, 7]),
            (("both", ("not", A), B), [5]), (("either", ("not", A), B), [0, 1, 3, 4, 5, 6, 7]),
            (("not", ("both", A, B)), [1, 2, 3, 5, 7]), (("not", ("either", A, B)), [1, 3, 7]),
            (("not", ("not", A)), [0, 2, 4, 6]),
        ):
            self.check_list(texts_in(book, built(told)), wanted)

    def test_of_none_of_all_and_of_those_without_words(self):
        book = Book(PAIRS)
        self.check_list(texts_in(book, built(NOTHING)), [])
        self.check_list(texts_in(book, built(ALWAYS)), list(range(8)))
        self.check_list(texts_in(book, built(("not", ("word", "zzz")))), list(range(8)))
        self.check_list(texts_in(book, built(NO_WORDS)), [1, 3])
        for told in (NOTHING, ALWAYS, NO_WORDS, ("not", ("word", "zzz"))):
            self.check_found(book, PAIRS, told)

    def test_a_book_without_texts(self):
        for told in LEAVES + JOINED + DENIED + [NOTHING, ALWAYS, NO_WORDS]:
            self.check_found(Book([]), [], told)
            self.check_list(texts_in(Book([]), built(told)), [])

    def test_books_of_one_text(self):
        for pair in PAIRS:
            if pair[0] != "k2":
                book = Book([pair])
                for told in LEAVES + JOINED + DENIED + [NOTHING, ALWAYS, NO_WORDS]:
                    self.check_found(book, [pair], told)

    def test_a_book_of_eight_texts(self):
        book = Book(PAIRS)
        for told in LEAVES + JOINED[::3] + DENIED[::5]:
            self.check_found(book, PAIRS, told)

    def test_just_one_text_of_many(self):
        pairs = [("k" + str(number), "w" + str(number) + " all W" + str(number + 1)) for number in range(140)]
        book = Book(pairs)
        for number in (1, 2, 127, 128, 139):
            self.check_list(texts_in(book, Word("w" + str(number))), [number - 1, number])
            self.check_list(texts_in(book, Row(["w" + str(number), "all"])), [number])
            others = [one for one in range(140) if one not in (number - 1, number)]
            self.check_list(texts_in(book, Not(Word("w" + str(number)))), others)
        self.check_list(texts_in(book, Start("w13")), [12, 13] + list(range(129, 140)))

    def test_four_within_one_another(self):
        # The seed is fixed, so that each run asks the same.
        chance = random.Random(11)
        words = ("a", "b", "ab", "the", "cat", "x")
        pairs = [pair for pair in PAIRS if pair[0] != "k2"] + [("k2", LONG[:60])]
        book = Book(pairs)
        many = {}
        for turn in range(250):
            told = chance_told(chance, words, 4)
            self.check_found(book, pairs, told)
            found = len(texts_in(book, built(told)))
            many[found] = many.get(found, 0) + 1
        self.assertGreater(len(many), 6)

    def test_texts_by_chance(self):
        chance = random.Random(12)
        for turn in range(60):
            pairs = [
                ("k" + str(number), chance.choice((" ", "-", ", ")).join(
                    chance.choice(("a", "B", "Ab", "abc")) for word in range(chance.choice((0, 1, 2, 5, 9)))))
                for number in range(chance.randrange(9))
            ]
            book = Book(pairs)
            for told in [chance_told(chance, ("a", "b", "ab", "abc", "c"), deep) for deep in (1, 2, 3, 4)]:
                self.check_found(book, pairs, told)

    def test_the_longest_text(self):
        pairs = [("k1", "a " * 1000), ("k2", "b"), ("k3", "a" * 2000), ("k4", "B a" + "-" * 1997)]
        book = Book(pairs)
        self.check_list(texts_in(book, Word("a")), [0, 3])
        self.check_list(texts_in(book, Word("a" * 2000)), [2])
        self.check_list(texts_in(book, Start("a" * 1999)), [2])
        self.check_list(texts_in(book, Start("a")), [0, 2, 3])
        self.check_list(texts_in(book, Near(Word("a"), Word("b"), 0)), [3])
        self.check_list(counted(book, Start("a")), [(0, 1000), (2, 1), (3, 1)])
        self.check_list(counted(book, Row(["a"] * 8)), [(0, 993)])
        self.check_list(spans_in(book, Word("a"), 0), [(place, place) for place in range(1000)])

    def test_what_lies_beyond_the_bounds_is_not_refused(self):
        pairs = [("k1", "b " + "x " * 25 + "a"), ("k2", "a " * 9), ("k3", "")]
        book = Book(pairs)
        long = "a" * 2001
        for ask, wanted in (
            (Word(long), []), (Start(long), []), (Row([long, "a"]), []), (Row(["a", long]), []),
            (Near(Word("a"), Start(long), 3), []), (Near(Word("a"), Word("b"), 25), [0]),
            (Near(Word("a"), Word("b"), 24), []), (Row(["a"] * 9), [1]), (Row(["a"]), [0, 1]),
            (Not(Word(long)), [0, 1, 2]), (Either(Word(long), Word("b")), [0]), (Both(Word(long), Word("b")), []),
            (built(in_nots(A, 9)), [2]), (built(in_nots(A, 40)), [0, 1]),
        ):
            self.check_list(texts_in(book, ask), wanted)
            for number, (key, text) in enumerate(pairs):
                self.check_list(spans_in(book, ask, number), ask.spans(looked_words(text)))
            if ask.leaves() == [ask]:
                self.check_list([number for number, count in counted(book, ask)], wanted)

    def test_the_arguments_have_their_names(self):
        book = Book(PAIRS)
        self.assertEqual(texts_in(book=book, ask=Word("b")), [0, 4, 5, 6])
        self.assertEqual(spans_in(book=book, ask=Word("b"), number=0), [(1, 1)])
        self.assertEqual(counted(book=book, leaf=Word("dog")), [(6, 1)])
        self.assertEqual(str(inspect.signature(texts_in)), "(book, ask)")
        self.assertEqual(str(inspect.signature(spans_in)), "(book, ask, number)")
        self.assertEqual(str(inspect.signature(counted)), "(book, leaf)")


class SpansTest(FindingCase):
    def test_some_by_hand(self):
        book = Book(PAIRS)
        for told, number, wanted in (
            (A, 0, [(0, 0)]), (A, 1, []), (A, 2, [(place, place) for place in range(5)]), (A, 3, []),
            (ROW, 6, [(0, 1)]), (("near", A, ("word", "dog"), 1), 6, [(4, 6)]), (START, 6, [(2, 2), (6, 6)]),
            (("both", ROW, A), 6, [(0, 1), (6, 6)]), (("both", ROW, ("word", "zzz")), 0, [(2, 3)]),
            (("either", ("not", A), B), 5, [(0, 0)]), (("not", A), 5, []), (("not", A), 0, []),
            (("row", ("a", "a", "a")), 2, [(0, 2), (1, 3), (2, 4)]), (("near", A, A, 0), 2, [
                (0, 1), (1, 2), (2, 3), (3, 4)]),
        ):
            self.check_list(spans_in(book, built(told), number), wanted)

    def test_a_number_that_is_none(self):
        for pairs in ([], PAIRS[:1], PAIRS):
            book = Book(pairs)
            wrong = no_whole_numbers() + [-1, len(pairs), len(pairs) + 1, -len(pairs) - 1, GREAT_NUMBER, -GREAT_NUMBER]
            for number in wrong:
                for told in (A, START, ROW, ("near", A, B, 1), ("both", A, B), ("either", A, B), ("not", A)):
                    self.check_refused(BadNumber, spans_in, book, built(told), number)
            for number in range(len(pairs)):
                told = ("either", A, ROW)
                self.check_list(spans_in(book, built(told), number), looked_spans(told, looked_words(pairs[number][1])))
            self.check_book(book, pairs)


class CountedTest(FindingCase):
    def test_some_by_hand(self):
        book = Book([("k2", "a b a"), ("k1", ""), ("k3", "b"), ("k4", "a-A-a-b"), ("k5", "-")])
        for leaf, wanted in (
            (Word("a"), [(0, 2), (3, 3)]), (Word("b"), [(0, 1), (2, 1), (3, 1)]), (Word("c"), []),
            (Start("a"), [(0, 2), (3, 3)]), (Start("ab"), []), (Row(["a", "a"]), [(3, 2)]), (Row(["a", "b"]), [
                (0, 1), (3, 1)]), (Row(["b", "b"]), []), (Near(Word("a"), Word("b"), 0), [(0, 2), (3, 1)]),
            (Near(Word("a"), Word("b"), 1), [(0, 2), (3, 2)]), (Near(Word("a"), Word("a"), 1), [(0, 1), (3, 3)]),
            (Near(Word("b"), Word("b"), 20), []), (Near(Row(["a", "a"]), Word("b"), 0), [(3, 1)]),
        ):
            self.check_list(counted(book, leaf), wanted)

    def test_just_the_texts_that_are_found(self):
        book = Book(PAIRS)
        for told in LEAVES:
            found = counted(book, built(told))
            self.assertEqual([number for number, count in found], texts_in(book, built(told)))
            for number, count in found:
                self.assertEqual(count, len(spans_in(book, built(told), number)))

    def test_spans_are_counted_once(self):
        book = Book([("k", "a a a")])
        self.check_list(counted(book, Near(Word("a"), Start("a"), 5)), [(0, 3)])
        self.check_list(counted(book, Near(Start("a"), Row(["a", "a"]), 5)), [(0, 1)])


class PouredTest(FindingCase):
    def setUp(self):
        self.shelves = [PAIRS[:3], PAIRS[3:6], [], PAIRS[6:]]
        self.books = [Book(pairs) for pairs in self.shelves]
        self.asked = LEAVES[::2] + JOINED[::6] + DENIED[::8] + [NOTHING, ALWAYS, NO_WORDS]

    def left(self, gone, shelves):
        return [
            pair for place, pairs in enumerate(shelves) for number, pair in enumerate(pairs)
            if (place, number) not in gone
        ]

    def check_keys(self, book, pairs, told):
        ask = built(told)
        keys = [key for key, text in pairs if looked_holds(told, looked_words(text))]
        self.check_list([book.key_of(number) for number in texts_in(book, ask)], keys)
        plain = Book(pairs)
        self.assertEqual(texts_in(book, ask), texts_in(plain, ask))
        for number in range(plain.many()):
            self.assertEqual(spans_in(book, ask, number), spans_in(plain, ask, number))

    def test_of_two_to_four_books(self):
        for many, gone in itertools.product((2, 3, 4), ([], [(0, 1)], [(0, 0), (1, 1)], [(0, 2), (0, 0), (0, 1)])):
            book = poured(self.books[:many], gone)
            left = self.left(gone, self.shelves[:many])
            for told in self.asked:
                self.check_keys(book, left, told)
            for told in self.asked[::7]:
                self.check_found(book, left, told)

    def test_all_gone(self):
        book = poured(self.books[:1], [(0, 0), (0, 1), (0, 2)])
        for told in self.asked:
            self.check_found(book, [], told)

    def test_poured_once_more(self):
        gone, later = [(0, 0), (1, 0), (3, 1)], [(0, 1), (0, 3), (1, 0)]
        first = poured(self.books, gone)
        left = self.left(gone, self.shelves)
        more = [("n1", "a b"), ("n2", "The cat a")]
        second = poured([first, Book(more)], later)
        last = self.left(later, [left, more])
        self.assertEqual([key for key, text in left], ["k1", "z", "k2", "a", "t9"])
        self.assertEqual([key for key, text in last], ["k1", "k2", "t9", "n2"])
        for told in self.asked:
            self.check_found(second, last, told)
            self.check_keys(first, left, told)

    def test_the_books_that_were_poured_find_as_ahead(self):
        asks = [built(told) for told in self.asked]
        ahead = [[self.all_told(book, ask) for ask in asks] for book in self.books]
        first = poured(self.books, [(0, 0), (1, 2)])
        for ask in asks:
            self.all_told(first, ask)
        poured([first, self.books[0]], [(0, 0), (0, 1)])
        self.assertEqual([[self.all_told(book, ask) for ask in asks] for book in self.books], ahead)

    def test_a_word_that_went_out(self):
        book = poured(self.books, [(3, 0)])
        self.check_list(texts_in(book, Word("dog")), [])
        self.check_list(counted(book, Start("do")), [])
        self.check_list(texts_in(book, Not(Word("dog"))), list(range(7)))


class OwnTest(FindingCase):
    def test_asked_again_in_another_order(self):
        asks = [built(told) for told in LEAVES[::2] + JOINED[::7] + DENIED[::9]]
        book = Book(PAIRS)
        first = [self.all_told(book, ask) for ask in asks]
        again = [self.all_told(book, ask) for ask in reversed(asks)]
        self.assertEqual(list(reversed(again)), first)
        other = Book(PAIRS)
        self.assertEqual([self.all_told(other, ask) for ask in reversed(asks)], again)

    def test_told_lists_are_changed(self):
        book = Book(PAIRS)
        for told in LEAVES[::3] + JOINED[::9] + [NO_WORDS]:
            ask = built(told)
            ahead = self.all_told(book, ask)
            changed = self.all_told(book, ask)
            for some in [changed[0], changed[2] or []] + changed[1]:
                some.append((9, 9))
                some.reverse()
            self.assertEqual(self.all_told(book, ask), ahead)
            for some in [changed[0], changed[2] or []] + changed[1]:
                some.clear()
            self.assertEqual(self.all_told(book, ask), ahead)
            self.check_found(book, PAIRS, told)
        self.check_book(book, PAIRS)

    def test_pairs_changed_behind_the_call(self):
        pairs = list(PAIRS)
        book = Book(pairs)
        pairs.reverse()
        pairs.pop()
        self.check_list(texts_in(book, Word("a")), [0, 2, 4, 6])
        self.check_list(spans_in(book, Word("b"), 5), [(0, 0)])

    def test_words_of_a_row_changed_behind_the_call(self):
        book = Book(PAIRS)
        words = ["the", "cat"]
        ask = Row(words)
        words[0] = "a"
        self.check_list(texts_in(book, ask), [0, 4, 6])
        words.clear()
        self.check_list(counted(book, ask), [(0, 1), (4, len(looked_spans(ROW, looked_words(LONG)))), (6, 1)])

    def test_two_books_side_by_side(self):
        one, other = Book(PAIRS), Book(list(reversed(PAIRS)))
        for told in LEAVES[::3] + DENIED[::9]:
            ask = built(told)
            found = texts_in(one, ask)
            self.assertEqual([7 - number for number in reversed(texts_in(other, ask))], found)
            self.assertEqual(texts_in(one, ask), found)

    def test_a_refusal_changes_nothing(self):
        book = Book(PAIRS)
        ask = Either(Word("a"), Row(["the", "cat"]))
        ahead = self.all_told(book, ask)
        for number in (-1, 8, True, None, "0", [0]):
            self.check_refused(BadNumber, spans_in, book, ask, number)
            self.assertEqual(self.all_told(book, ask), ahead)


if __name__ == "__main__":
    unittest.main()
