import itertools
import re
import unittest

from findhall.errors import BadText, BadWord
from findhall.words import is_word, need_word, plain_words, words_in
from handed import GREAT_NUMBER

SMALL = "abcdefghijklmnopqrstuvwxyz0123456789"
# Of the percent sign nothing is promised.
PRINTED = [chr(number) for number in range(32, 127) if number != 37]


def things_but_texts():
    return [
        None, True, False, 0, 1, -1, GREAT_NUMBER, 1.5, [], ["a"], ["ab", "cd"], (), ("a",), {}, {"a": "a"},
        {"a"}, b"", b"ab", object(), len, str, range(3),
    ]


def looked_through(text):
    """The words by another way than the program's own, to be compared with it."""
    return [(found.group().lower(), found.start(), found.end()) for found in re.finditer("[A-Za-z0-9]+", text)]


class WordTest(unittest.TestCase):
    def check_word(self, thing):
        self.assertIs(is_word(thing), True)
        self.assertIs(type(need_word(thing)), str)
        self.assertEqual(need_word(thing), thing)

    def check_no_word(self, thing):
        self.assertIs(is_word(thing), False)
        with self.assertRaises(BadWord):
            need_word(thing)

    def test_lengths(self):
        for sign in ("a", "z", "0", "9", "a1"):
            for length in (1, 2, 12, 13, 1999, 2000):
                self.check_word((sign * length)[:length])
            for length in (0, 2001, 2002, 4000):
                self.check_no_word((sign * length)[:length])

    def test_each_sign_at_each_place(self):
        for sign in PRINTED + ["\n", "\t"]:
            check = self.check_word if sign in SMALL else self.check_no_word
            with self.subTest(sign=sign):
                for row in ("abc", "123", "a" * 13):
                    for place in (0, 1, len(row) - 1):
                        check(row[:place] + sign + row[place + 1:])
                check(sign)
                check("w1" + sign)
                check(sign + "w1")

    def test_the_words_of_joining_are_words(self):
        for word in ("and", "or", "not"):
            self.check_word(word)

    def test_other_things_are_none(self):
        for thing in things_but_texts():
            self.check_no_word(thing)

    def test_the_arguments_have_their_names(self):
        self.assertIs(is_word(thing="a1"), True)
        self.assertEqual(need_word(thing="a1"), "a1")


class WordsInTest(unittest.TestCase):
    def check(self, text, told):
        found = words_in(text)
        self.assertEqual(found, told)
        self.assertIs(type(found), list)
        for one in found:
            self.assertEqual([type(part) for part in one], [str, int, int])
            self.assertIs(type(one), tuple)
        plain = plain_words(text)
        self.assertEqual(plain, [word for word, begin, end in told])
        self.assertIs(type(plain), list)

    def test_the_document_s_own(self):
        self.check("Ab-c9d!", [("ab", 0, 2), ("c9d", 3, 6)])

    def test_texts_without_words(self):
        for text in ("", " ", "\n", "-", " \n ", "!?.,;", "[]{}()", " " * 2000, "\n" * 2000):
            self.check(text, [])
        self.check("".join(sign for sign in PRINTED if not sign.isalnum()), [])

    def test_words_at_the_begin_and_the_end(self):
        self.check("a", [("a", 0, 1)])
        self.check("Z", [("z", 0, 1)])
        self.check("7", [("7", 0, 1)])
        self.check("ab", [("ab", 0, 2)])
        self.check("ab ", [("ab", 0, 2)])
        self.check(" ab", [("ab", 1, 3)])
        self.check("-ab-", [("ab", 1, 3)])
        self.check("a b", [("a", 0, 1), ("b", 2, 3)])
        self.check("\na\n", [("a", 1, 2)])

    def test_all_letters_and_figures(self):
        self.check("ABCDEFGHIJKLMNOPQRSTUVWXYZ", [("abcdefghijklmnopqrstuvwxyz", 0, 26)])
        self.check("abcdefghijklmnopqrstuvwxyz", [("abcdefghijklmnopqrstuvwxyz", 0, 26)])
        self.check("0123456789", [("0123456789", 0, 10)])
        self.check("aB3Cd4", [("ab3cd4", 0, 6)])

    def test_the_signs_beside_letters_and_figures_part_words(self):
        for sign in "/:@[`{":
            self.check("a" + sign + "Z9", [("a", 0, 1), ("z9", 2, 4)])
            self.check(sign + "0A" + sign, [("0a", 1, 3)])

    def test_each_sign_between_two_words(self):
        for sign in PRINTED + ["\n"]:
            told = [("x", 0, 1), ("y", 2, 3)]
            if sign.isalnum():
                told = [("x" + sign.lower() + "y", 0, 3)]
            with self.subTest(sign=sign):
                self.check("x" + sign + "Y", told)

    def test_blanks_and_line_feeds_between_words(self):
        self.check("one two", [("one", 0, 3), ("two", 4, 7)])
        self.check("one   two", [("one", 0, 3), ("two", 6, 9)])
        self.check("one\ntwo", [("one", 0, 3), ("two", 4, 7)])
        self.check("one \n two\n\n", [("one", 0, 3), ("two", 6, 9)])

    def test_a_word_stands_as_often_as_it_stands_and_in_its_order(self):
        self.check("b a B", [("b", 0, 1), ("a", 2, 3), ("b", 4, 5)])
        self.check("to be or not to be", [
            ("to", 0, 2), ("be", 3, 5), ("or", 6, 8), ("not", 9, 12), ("to", 13, 15), ("be", 16, 18),
        ])

    def test_long_texts(self):
        self.check("a" * 2000, [("a" * 2000, 0, 2000)])
        self.check("Q" * 2000, [("q" * 2000, 0, 2000)])
        self.check(" " + "a" * 1999, [("a" * 1999, 1, 2000)])
        self.check("a" * 1999 + " ", [("a" * 1999, 0, 1999)])
        self.check("X " * 1000, [("x", place, place + 1) for place in range(0, 2000, 2)])
        self.check(" x" * 1000, [("x", place, place + 1) for place in range(1, 2000, 2)])

    def test_all_short_texts_of_some_signs(self):
        for length in range(5):
            for signs in itertools.product("aZ09 \n-@[", repeat=length):
                text = "".join(signs)
                told = looked_through(text)
                self.assertEqual(words_in(text), told)
                self.assertEqual(plain_words(text), [word for word, begin, end in told])

    def test_each_word_told_is_a_word(self):
        for text in ("Ab-c9d!", "".join(PRINTED), "A" * 2000):
            for word, begin, end in words_in(text):
                self.assertIs(is_word(word), True)
                self.assertEqual(text[begin:end].lower(), word)

    def test_what_is_no_text_is_refused(self):
        wrong = things_but_texts() + ["\t", "a\tb", "ab\t", "\tab", "a" * 2001, " " * 2001, "a " * 1001]
        for thing in wrong:
            for call in (words_in, plain_words):
                with self.assertRaises(BadText):
                    call(thing)

    def test_the_arguments_have_their_names(self):
        self.assertEqual(words_in(text="A b"), [("a", 0, 1), ("b", 2, 3)])
        self.assertEqual(plain_words(text="A b"), ["a", "b"])


class OwnTest(unittest.TestCase):
    def test_a_told_list_is_the_asker_s_own(self):
        for call in (words_in, plain_words):
            for text in ("Ab-c9d!", "", "a"):
                first = call(text)
                kept = list(first)
                first.append("more")
                first.reverse()
                self.assertEqual(call(text), kept)
                first.clear()
                self.assertEqual(call(text), kept)

    def test_what_is_asked_later_changes_no_told_list(self):
        for call in (words_in, plain_words):
            first = call("one two")
            kept = list(first)
            call("three")
            call("")
            with self.assertRaises(BadText):
                call(None)
            self.assertEqual(first, kept)
            self.assertIsNot(call("one two"), first)

    def test_a_list_handed_in_is_not_changed(self):
        for call in (words_in, plain_words, need_word):
            handed = ["a", "b"]
            with self.assertRaises((BadText, BadWord)):
                call(handed)
            self.assertEqual(handed, ["a", "b"])


if __name__ == "__main__":
    unittest.main()
