import inspect
import random
import unittest

from findhall.books import Book
from findhall.errors import BadKey, BadNumber, BadText, BadWord, NoText, Twice
from handed import GREAT_NUMBER, BookCase, Thing, no_keys, no_texts, no_whole_numbers, no_words

SOME_PAIRS = [
    ("b", "The cat, the dog - THE END"),
    ("a", ""),
    ("k1", "Dogs and cats\nand dog9 and a cat."),
    ("abcdefghij12", "cat"),
    ("9", "!? -- \n"),
]
CHANCE_WORDS = ["a", "A", "ab", "Abc", "b", "b9", "9", "x1y", "Zz", "and", "or"]


def chance_text(chance):
    parting = [" ", "-", "\n", ", ", "  "]
    return "".join(
        chance.choice(CHANCE_WORDS) + chance.choice(parting) for turn in range(chance.randrange(12)))


def many_small_pairs():
    chance = random.Random(3)
    return [("t" + str(number), chance_text(chance)) for number in range(140)]


class MadeTest(BookCase):
    def test_no_texts(self):
        book = Book([])
        self.assertEqual((book.many(), book.total(), book.words()), (0, 0, []))
        self.assertEqual((book.starts("a"), book.parts_of("a"), book.row_of("a")), ([], [], []))
        self.check_book(book, [])

    def test_some_by_hand(self):
        book = Book([("b", "The cat, the dog"), ("a", "Dogs"), ("c", "-"), ("d", "a dog the the")])
        self.assertEqual((book.many(), book.total()), (4, 9))
        self.assertEqual([book.key_of(number) for number in range(4)], ["b", "a", "c", "d"])
        self.assertEqual([book.size_of(number) for number in range(4)], [4, 1, 0, 4])
        self.assertEqual([book.number_of(key) for key in "abcd"], [1, 0, 2, 3])
        self.assertEqual(book.text_of(0), "The cat, the dog")
        self.assertEqual(book.words(), ["a", "cat", "dog", "dogs", "the"])
        self.assertEqual(book.starts("dog"), ["dog", "dogs"])
        self.assertEqual(book.starts("do"), ["dog", "dogs"])
        self.assertEqual(book.starts("dogs"), ["dogs"])
        self.assertEqual(book.starts("dogsy"), [])
        self.assertEqual(book.row_of("the"), [(0, (0, 2)), (3, (2, 3))])
        self.assertEqual(book.parts_of("the"), [0, 1, 0, 1, 2, 1, 2, 0])
        self.assertEqual(book.walk_of("the").pair(), (0, (0, 2)))
        self.assertEqual(book.row_of("dogs"), [(1, (0,))])
        self.assertEqual(book.row_of("do"), [])
        self.assertEqual(book.parts_of("do"), [])
        self.assertIs(book.walk_of("do").pair(), None)

    def test_one_text(self):
        for text in ("", "a", "A", "a a", "Ab-c9d!", "x " * 1000, "q" * 2000, "\n", "0 00 000"):
            for key in ("a", "9", "abcdefghij12", "999999999999"):
                self.check_book(Book([(key, text)]), [(key, text)])

    def test_several_texts(self):
        for many in range(len(SOME_PAIRS) + 1):
            self.check_book(Book(SOME_PAIRS[:many]), SOME_PAIRS[:many])
            self.check_book(Book(SOME_PAIRS[::-1][:many]), SOME_PAIRS[::-1][:many])

    def test_texts_without_words(self):
        pairs = [("a", ""), ("b", " \n"), ("c", "-"), ("d", "!"), ("e", " " * 2000)]
        self.check_book(Book(pairs), pairs)
        pairs.insert(2, ("x", "word"))
        self.check_book(Book(pairs), pairs)
        self.assertEqual(Book(pairs).row_of("word"), [(2, (0,))])

    def test_one_word_often(self):
        pairs = [("a", "x X-x\nX " * 60), ("b", "x"), ("c", "y x y")]
        book = Book(pairs)
        self.check_book(book, pairs)
        self.assertEqual(book.size_of(0), 240)
        self.assertEqual(book.row_of("x"), [(0, tuple(range(240))), (1, (0,)), (2, (1,))])

    def test_two_hundred_words(self):
        text = " ".join("W" + str(number) for number in range(200))
        pairs = [("a", "w7 w199"), ("b", text), ("c", text.lower())]
        book = Book(pairs)
        self.check_book(book, pairs)
        self.assertEqual(book.size_of(1), 200)
        self.assertEqual(book.row_of("w199"), [(0, (1,)), (1, (199,)), (2, (199,))])
        self.assertEqual(book.starts("w19"), ["w19"] + ["w19" + str(figure) for figure in range(10)])

    def test_great_and_small_letters(self):
        pairs = [("a", "CAT Cat cAt cat"), ("b", "DOG"), ("c", "dog")]
        book = Book(pairs)
        self.check_book(book, pairs)
        self.assertEqual(book.words(), ["cat", "dog"])
        self.assertEqual(book.text_of(0), "CAT Cat cAt cat")

    def test_many_small_texts(self):
        pairs = many_small_pairs()
        book = Book(pairs)
        self.check_book(book, pairs)
        self.assertEqual(book.many(), 140)
        self.assertGreater(len(book.row_of("a")), 30)

    def test_a_word_in_all_texts(self):
        pairs = [("t" + str(number), "w " * (number + 1)) for number in range(140)]
        book = Book(pairs)
        self.assertEqual(book.row_of("w"), [(number, tuple(range(number + 1))) for number in range(140)])
        self.check_book(book, pairs)

    def test_like_texts_under_several_keys(self):
        pairs = [("a", "one two"), ("b", "one two"), ("c", "One Two")]
        self.check_book(Book(pairs), pairs)

    def test_words_rise_figures_ahead_of_letters(self):
        book = Book([("a", "b a10 a9 A 0 z Zz 10 9")])
        self.assertEqual(book.words(), ["0", "10", "9", "a", "a10", "a9", "b", "z", "zz"])
        self.assertEqual(book.starts("a"), ["a", "a10", "a9"])

    def test_a_long_word_that_no_text_has(self):
        book = Book(SOME_PAIRS)
        self.assertEqual(book.starts("a" * 2000), [])
        self.assertEqual(book.row_of("a" * 2000), [])

    def test_the_arguments_have_their_names(self):
        book = Book(pairs=[("a", "x")], rows=None)
        self.assertEqual((book.key_of(number=0), book.text_of(number=0), book.size_of(number=0)), ("a", "x", 1))
        self.assertEqual(book.number_of(key="a"), 0)
        self.assertEqual((book.starts(word="x"), book.parts_of(word="x")), (["x"], [0, 0, 0]))
        self.assertEqual((book.row_of(word="x"), book.walk_of(word="x").pair()), ([(0, (0,))], (0, (0,))))
        self.assertEqual(str(inspect.signature(Book)), "(pairs, rows=None)")


class RefusedTest(BookCase):
    def test_keys_that_are_none(self):
        for key in no_keys():
            for place in (0, 2, len(SOME_PAIRS)):
                self.check_refused(BadKey, Book, SOME_PAIRS[:place] + [(key, "x")] + SOME_PAIRS[place:])

    def test_texts_that_are_none(self):
        for text in no_texts():
            for place in (0, 2, len(SOME_PAIRS)):
                self.check_refused(BadText, Book, SOME_PAIRS[:place] + [("new", text)] + SOME_PAIRS[place:])

    def test_keys_that_stood_ahead(self):
        self.check_refused(Twice, Book, [("a", "x"), ("a", "y")])
        self.check_refused(Twice, Book, [("a", "x"), ("a", "x")])
        for place in range(len(SOME_PAIRS)):
            self.check_refused(Twice, Book, SOME_PAIRS + [(SOME_PAIRS[place][0], "other")])

    def test_a_wrong_key_comes_ahead_of_a_wrong_text(self):
        for key in no_keys():
            self.check_refused(BadKey, Book, [("a", "x"), (key, None)])
        for text in no_texts():
            self.check_refused(BadKey, Book, [("a", "x"), ("", text)])

    def test_a_wrong_text_comes_ahead_of_a_key_twice(self):
        for text in no_texts():
            self.check_refused(BadText, Book, [("a", "x"), ("a", text)])

    def test_of_two_wrong_pairs_the_first(self):
        wrong = {BadKey: ("A", "x"), BadText: ("c", "\t"), Twice: ("a", "z")}
        for first in wrong:
            for second in wrong:
                self.check_refused(first, Book, [("a", "x"), wrong[first], ("b", "y"), wrong[second]])

    def test_numbers_that_no_text_has(self):
        for many in (0, 1, 5):
            book = Book(SOME_PAIRS[:many])
            for call in (book.key_of, book.text_of, book.size_of):
                for number in no_whole_numbers() + [-1, -2, -many - 1, many, many + 1, GREAT_NUMBER, -GREAT_NUMBER]:
                    self.check_refused(BadNumber, call, number)
            self.check_book(book, SOME_PAIRS[:many])

    def test_keys_that_no_text_has(self):
        for many in (0, 5):
            book = Book(SOME_PAIRS[:many])
            for key in no_keys() + ["c", "aa", "bb", "k", "k2", "abcdefghij1", "a" * 12]:
                self.check_refused(NoText, book.number_of, key)
            self.check_book(book, SOME_PAIRS[:many])

    def test_what_is_no_word(self):
        for many in (0, 5):
            book = Book(SOME_PAIRS[:many])
            for call in (book.starts, book.parts_of, book.row_of, book.walk_of):
                for thing in no_words() + ["The", "the cat"]:
                    self.check_refused(BadWord, call, thing)
            self.check_book(book, SOME_PAIRS[:many])

    def test_the_refused_pairs_stay(self):
        for wrong in (("A", "x"), ("c", "\t"), ("a", "z"), ([], Thing())):
            pairs = SOME_PAIRS + [wrong, ("d", "y")]
            before = list(pairs)
            with self.assertRaises(ValueError):
                Book(pairs)
            self.assertEqual(len(pairs), len(before))
            for one, other in zip(pairs, before):
                self.assertIs(one, other)


class OwnTest(BookCase):
    def test_the_pairs_stay_as_they_were(self):
        pairs = list(SOME_PAIRS)
        book = Book(pairs)
        book.words()
        book.row_of("the")
        self.assertEqual(pairs, SOME_PAIRS)

    def test_the_pairs_are_changed_behind_the_making(self):
        pairs = list(SOME_PAIRS)
        book = Book(pairs)
        pairs[0] = ("z", "other words")
        self.check_book(book, SOME_PAIRS)
        pairs.append(("y", "more"))
        self.check_book(book, SOME_PAIRS)
        pairs.clear()
        self.check_book(book, SOME_PAIRS)

    def test_told_lists_are_changed(self):
        book = Book(SOME_PAIRS)
        calls = [book.words] + [
            lambda call=call, word=word: call(word)
            for call in (book.starts, book.parts_of, book.row_of) for word in ("the", "c", "cat", "zzz")
        ]
        for call in calls:
            told = call()
            told.append("more")
            told.reverse()
            self.check_book(book, SOME_PAIRS)
            told.clear()
            self.check_book(book, SOME_PAIRS)

    def test_told_lists_stay(self):
        book = Book(SOME_PAIRS)
        words, starts = book.words(), book.starts("c")
        parts, row, walk = book.parts_of("cat"), book.row_of("cat"), book.walk_of("cat")
        book.words().clear()
        book.parts_of("cat").clear()
        book.row_of("dog").clear()
        Book([("a", "others cat")])
        self.assertEqual(words, ["a", "and", "cat", "cats", "dog", "dog9", "dogs", "end", "the"])
        self.assertEqual(starts, ["cat", "cats"])
        self.assertEqual(row, [(0, (1,)), (2, (7,)), (3, (0,))])
        self.assertEqual(parts, [0, 0, 1, 1, 0, 7, 0, 0, 0])
        self.check_walk(walk, row)

    def test_each_walk_is_its_own(self):
        book = Book(SOME_PAIRS)
        one, other = book.walk_of("cat"), book.walk_of("cat")
        one.step()
        one.step()
        self.assertEqual(one.pair(), (3, (0,)))
        self.assertEqual(other.pair(), (0, (1,)))
        self.check_book(book, SOME_PAIRS)

    def test_two_books_of_one_list(self):
        pairs = list(SOME_PAIRS)
        one = Book(pairs)
        pairs.append(("new", "cat"))
        other = Book(pairs)
        self.check_book(one, SOME_PAIRS)
        self.check_book(other, SOME_PAIRS + [("new", "cat")])


if __name__ == "__main__":
    unittest.main()
