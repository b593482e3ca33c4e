import unittest

from findhall.errors import BadKey, BadNumber, BadText
from findhall.signs import is_key, is_text, is_whole, need_key, need_number, need_text
from handed import GREAT_NUMBER, Thing

SMALL = "abcdefghijklmnopqrstuvwxyz0123456789"
# Of the percent sign nothing is promised.
PRINTED = [chr(number) for number in range(32, 127) if number != 37]


def things_but_texts_and_numbers():
    return [
        None, 1.0, 1.5, [], ["a"], [1], (), ("a",), (1,), {}, {"a": "a"}, {1: 1}, {"a"}, b"", b"a",
        object(), Thing(), Thing, len, str, int, range(3), [["a"]], [None],
    ]


class WholeTest(unittest.TestCase):
    def test_whole_numbers(self):
        for thing in (0, 1, -1, 2, 255, -2000, 2 ** 64, -(2 ** 64), GREAT_NUMBER, -GREAT_NUMBER):
            self.assertIs(is_whole(thing), True)

    def test_true_and_false_are_none(self):
        self.assertIs(is_whole(True), False)
        self.assertIs(is_whole(False), False)

    def test_other_things_are_none(self):
        for thing in things_but_texts_and_numbers() + ["", "1", "0", "a"]:
            self.assertIs(is_whole(thing), False)


class TextTest(unittest.TestCase):
    def check_text(self, thing):
        self.assertIs(is_text(thing), True)
        self.assertIs(type(need_text(thing)), str)
        self.assertEqual(need_text(thing), thing)

    def check_no_text(self, thing):
        self.assertIs(is_text(thing), False)
        with self.assertRaises(BadText):
            need_text(thing)

    def test_lengths(self):
        for sign in ("a", "Z", " ", "\n", "~", "ab \n"):
            for length in (0, 1, 2, 12, 13, 1999, 2000):
                self.check_text((sign * length)[:length])
            for length in (2001, 2002, 4000):
                self.check_no_text((sign * length)[:length])

    def test_each_sign_of_a_text(self):
        for sign in PRINTED + ["\n"]:
            with self.subTest(sign=sign):
                for text in (sign, sign + "ab", "a" + sign + "b", "ab" + sign, sign * 3):
                    self.check_text(text)

    def test_all_signs_at_once(self):
        self.check_text("".join(PRINTED) + "\n")

    def test_a_tab_is_none(self):
        for text in ("\t", "\tab", "a\tb", "ab\t", "\t\n", "\n\t", "a" * 1999 + "\t", "\t" + "a" * 1999):
            self.check_no_text(text)

    def test_other_things_are_none(self):
        for thing in things_but_texts_and_numbers() + [0, 1, -1, True, False, GREAT_NUMBER]:
            self.check_no_text(thing)

    def test_nothing_of_it_is_changed(self):
        for text in (" a ", "\na\n", "Ab-c9d!", "  ", "\n", "A", "[\\]", "\\n"):
            self.check_text(text)


class KeyTest(unittest.TestCase):
    def check_key(self, thing):
        self.assertIs(is_key(thing), True)
        self.assertIs(type(need_key(thing)), str)
        self.assertEqual(need_key(thing), thing)

    def check_no_key(self, thing):
        self.assertIs(is_key(thing), False)
        with self.assertRaises(BadKey):
            need_key(thing)

    def test_lengths(self):
        for sign in ("a", "z", "0", "9", "a1"):
            for length in (1, 2, 11, 12):
                self.check_key((sign * length)[:length])
            for length in (0, 13, 14, 2000, 2001):
                self.check_no_key((sign * length)[:length])

    def test_each_sign_at_each_place(self):
        for sign in PRINTED + ["\n", "\t"]:
            check = self.check_key if sign in SMALL else self.check_no_key
            with self.subTest(sign=sign):
                for row in ("abc", "123", "a" * 12):
                    for place in (0, 1, len(row) - 1):
                        check(row[:place] + sign + row[place + 1:])
                check(sign)
                check("k1" + sign)
                check(sign + "k1")

    def test_figures_or_letters_alone(self):
        for key in ("0", "00", "007", "1234567890", "abcdefghijkl", "mnopqrstuvwx", "yz", "a0", "0a"):
            self.check_key(key)

    def test_other_things_are_none(self):
        for thing in things_but_texts_and_numbers() + [0, 1, -1, True, False, GREAT_NUMBER]:
            self.check_no_key(thing)


class NumberTest(unittest.TestCase):
    def check_number(self, thing, *bounds):
        told = need_number(thing, *bounds)
        self.assertIs(type(told), int)
        self.assertEqual(told, thing)

    def check_no_number(self, thing, *bounds):
        with self.assertRaises(BadNumber):
            need_number(thing, *bounds)

    def test_least_and_most(self):
        for least in (-300, -1, 0, 1, 300):
            for most in (least, least + 1, least + 2, least + 500):
                for thing in (least, (least + most) // 2, most):
                    self.check_number(thing, least, most)
                for thing in (least - 1, least - 500, most + 1, most + 500, GREAT_NUMBER, -GREAT_NUMBER):
                    self.check_no_number(thing, least, most)

    def test_without_most(self):
        for least in (-300, -1, 0, 1, 300):
            for bounds in ((least,), (least, None)):
                for thing in (least, least + 1, least + 500, GREAT_NUMBER):
                    self.check_number(thing, *bounds)
                for thing in (least - 1, least - 500, -GREAT_NUMBER):
                    self.check_no_number(thing, *bounds)

    def test_a_most_of_nought_counts(self):
        self.check_number(0, 0, 0)
        self.check_no_number(1, 0, 0)
        self.check_number(0, -1, 0)
        self.check_no_number(1, -1, 0)

    def test_true_and_false_are_none(self):
        for thing in (True, False):
            for bounds in ((0,), (-1,), (0, 1), (0, None), (-5, 5)):
                self.check_no_number(thing, *bounds)

    def test_other_things_are_none(self):
        for thing in things_but_texts_and_numbers() + ["", "1", "0", "a", "a" * 2001]:
            for bounds in ((0,), (0, 5), (0, None)):
                self.check_no_number(thing, *bounds)

    def test_the_arguments_have_their_names(self):
        self.assertEqual(need_number(thing=2, least=1, most=3), 2)
        self.assertEqual(need_number(thing=2, least=1), 2)
        with self.assertRaises(BadNumber):
            need_number(thing=4, least=1, most=3)
        with self.assertRaises(BadNumber):
            need_number(thing=0, least=1)


class NamesTest(unittest.TestCase):
    def test_the_arguments_have_their_names(self):
        self.assertIs(is_whole(thing=3), True)
        self.assertIs(is_text(thing="A b"), True)
        self.assertIs(is_key(thing="a1"), True)
        self.assertEqual(need_text(thing="A b"), "A b")
        self.assertEqual(need_key(thing="a1"), "a1")

    def test_a_list_handed_in_is_not_changed(self):
        for call in (is_whole, is_text, is_key):
            handed = ["a", "b"]
            call(handed)
            self.assertEqual(handed, ["a", "b"])

    def test_a_refusal_changes_nothing(self):
        for call, refusal in ((need_text, BadText), (need_key, BadKey)):
            with self.assertRaises(refusal):
                call(["a"])
            self.assertEqual(call("a"), "a")
        with self.assertRaises(BadNumber):
            need_number(-1, 0)
        self.assertEqual(need_number(0, 0), 0)


if __name__ == "__main__":
    unittest.main()
