import inspect
import itertools
import random
import re
import unittest

from findhall.errors import BadKept, HallError
from findhall.house import House, house_of
from findhall.keeping import flat, kept_lines, meant, risen
from handed import HouseCase, PlainHouse, no_lists, no_strs

SHELVES = [
    [("k3", "The [cat]\nsat"), ("end", "1")], [("book", "2"), ("a", ""), ("k1", "\\n \\\\ \n\n~")], [("z9", " 0 ")],
]


def looked_check(check, rest):
    """The check behind a rest, by thirty-two written bits."""
    bits = format(check, "032b")
    for sign in rest:
        bits = bits[5:] + bits[:5]
        bits = "".join("1" if one != other else "0" for one, other in zip(bits, format(ord(sign), "032b")))
    return int(bits, 2)


def with_checks(rests):
    lines, check = [], 0
    for rest in rests:
        check = looked_check(check, rest)
        lines.append(format(check, "08x") + " " + rest)
    return lines


def looked_rests(shelves):
    rests = []
    for shelf in shelves:
        rests.append(f"book {len(shelf)}")
        rests += [key + " " + text.replace("\\", "\\\\").replace("\n", "\\n") for key, text in shelf]
    return rests + [f"end {len(shelves)}"]


def looked_wrong(lines):
    """The number of the line that is wrong, by what may stand there; None where a house is kept so."""
    check, books, missing, keys = 0, 0, 0, []
    for row, line in enumerate(lines):
        if not isinstance(line, str) or keys is None:
            return row
        check = looked_check(check, line[9:])
        if line[:9] != format(check, "08x") + " ":
            return row
        text = re.fullmatch(r"([a-z0-9]{1,12}) ((?:[ -\[\]-~]|\\\\|\\n){0,2000})", line[9:])
        book = re.fullmatch("book ([1-9][0-9]{0,8})", line[9:])
        if missing:
            if not text or text[1] in keys:
                return row
            keys.append(text[1])
            missing -= 1
        elif book:
            books, missing = books + 1, int(book[1])
        elif line[9:] == f"end {books}":
            keys = None
        else:
            return row
    return None if keys is None else len(lines)


class FlatTest(HouseCase):
    def test_by_hand(self):
        for text, line in (
            ("", ""), ("a b", "a b"), ("\\", "\\\\"), ("\n", "\\n"), ("\\n", "\\\\n"), ("\\\n", "\\\\\\n"),
            ("\n\\", "\\n\\\\"), ("\\\\", "\\\\\\\\"), ("a\nb\\c", "a\\nb\\\\c"), ("n", "n"), ("[a] /", "[a] /"),
            ("\n\n", "\\n\\n"), ("\\nn\n", "\\\\nn\\n"),
        ):
            self.assertEqual(flat(text), line)
            self.assertEqual(meant(line), text)
            self.assertEqual((type(flat(text)), type(meant(line))), (str, str))

    def test_strokes_and_line_feeds_at_each_place(self):
        for many in range(7):
            for signs in itertools.product("\\\nna", repeat=many):
                text = "".join(signs)
                line = "".join({"\\": "\\\\", "\n": "\\n"}.get(sign, sign) for sign in signs)
                self.assertEqual(flat(text), line)
                self.assertEqual(meant(line), text)

    def test_lines_that_nothing_is_flat_as(self):
        for line in (
            "\\", "a\\", "\\\\\\", "\\a", "\\ ", "\\N", "\\[", "\\\\\\a", "\n", "a\n", "\na", "\\\n", "a\\n\nb",
            "\\\\\n", "\\n\\", "a\\tb", "\\\t", " \\", "\\\\n\\",
        ):
            self.assertIs(meant(line), None)

    def test_every_short_line(self):
        flats = {}
        for many in range(7):
            for signs in itertools.product("\\\nna", repeat=many):
                flats[flat("".join(signs))] = "".join(signs)
        for many in range(7):
            for signs in itertools.product("\\\nna", repeat=many):
                line = "".join(signs)
                self.assertEqual(meant(line), flats.get(line))

    def test_other_signs_and_more_of_them_are_let_by(self):
        for line, text in (
            ("\t", "\t"), ("a\tb\\n", "a\tb\n"), ("a" * 2001, "a" * 2001), ("\\n" * 3000, "\n" * 3000),
            ("\\\\" * 50000, "\\" * 50000), ("\t" * 5000 + "\\\\", "\t" * 5000 + "\\"),
        ):
            self.assertEqual(meant(line), text)
            self.assertEqual(flat(text), line)
        self.assertIs(meant("\t" * 5000 + "\\"), None)
        self.assertIs(meant("a" * 5000 + "\n"), None)
        self.assertEqual(flat("\n" * 2000), "\\n" * 2000)

    def test_the_interface(self):
        for call, arguments in (
            (flat, "(text)"), (meant, "(line)"), (kept_lines, "(house)"), (risen, "(lines)"),
        ):
            self.assertEqual(str(inspect.signature(call)), arguments)


class KeptCase(HouseCase):
    def check_kept(self, house, plain):
        lines = kept_lines(house)
        self.check_list(lines, with_checks(looked_rests(plain.shelves)))
        self.assertEqual({type(line) for line in lines}, {str})
        handed = list(lines)
        other = risen(handed)
        self.assertEqual(handed, lines)
        self.assertIs(type(other), House)
        self.check_house(other, plain)
        self.check_list(kept_lines(other), lines)
        self.check_house(house, plain)

    def check_bad(self, lines, row):
        with self.assertRaises(HallError) as caught:
            risen(lines)
        self.assertIs(type(caught.exception), BadKept)
        self.assertIsInstance(caught.exception, ValueError)
        self.assertEqual((caught.exception.row, type(caught.exception.row)), (row, int))

    def check_lines(self, lines):
        """What is wrong is told as a look at each line tells it."""
        wrong = looked_wrong(lines)
        if wrong is None:
            self.assertEqual(kept_lines(risen(lines)), lines)
        else:
            self.check_bad(lines, wrong)
        return wrong

    def check_rests(self, rests, row):
        """The checks fit, but the rests can't be."""
        self.assertEqual(self.check_lines(with_checks(rests)), row)


class KeptTest(KeptCase):
    def test_checks_by_hand(self):
        # The check is 0 ahead, so that of one sign is its number: e is 65 in sixteens. Turned by five bits it is ca0,
        # and n, 6e, over it makes cce; that turned is 199c0, and d, 64, over it makes 199a4; and so on.
        for rest, check in (("", 0), ("e", 0x65), ("en", 0xcce), ("end", 0x199a4), ("end ", 0x3334a0)):
            self.assertEqual(looked_check(0, rest), check)
        self.assertEqual(looked_check(0x80000000, " "), 0x30)
        self.assertEqual(looked_check(0xf8000001, "\\"), 0x63)
        self.check_list(kept_lines(House()), ["06669430 end 0"])
        house = House()
        house.put("a", "b\n")
        self.check_list(kept_lines(house), ["c2c62831 book 1", "65840fbe a b\\n", "7aad9c2e end 1"])

    def test_no_texts_one_and_many(self):
        self.check_kept(House(), PlainHouse())
        for shelves in ([[("k", "")]], SHELVES[:1], SHELVES, SHELVES[::-1]):
            self.check_kept(house_of(shelves), PlainHouse(shelves))
        shelves = [[("k" + str(number), "a " * number) for number in range(120)]]
        shelves.append([("x", "a" * 2000), ("y", "\n" * 2000)])
        self.check_kept(house_of(shelves), PlainHouse(shelves))

    def test_behind_deeds_by_chance(self):
        chance = random.Random(61)
        house, plain = House(), PlainHouse()
        for turn in range(80):
            key = "k" + str(chance.randrange(12))
            if house.has(key):
                house.take(key)
                plain.take(key)
            else:
                text = "".join(chance.choice("aB9[]\\\nn .") for sign in range(chance.randrange(20)))
                house.put(key, text)
                plain.put(key, text)
            if chance.random() < 0.1:
                house.pour()
                plain.pour()
            self.check_kept(house, plain)
            if chance.random() < 0.2:
                house = risen(kept_lines(house))

    def test_both_go_on_by_themselves(self):
        for deed in (
            lambda one: one.put("new", "x"), lambda one: one.take("k3"), lambda one: one.take("z9"), House.pour,
        ):
            first = house_of(SHELVES)
            second = risen(kept_lines(first))
            deed(first)
            self.check_kept(second, PlainHouse(SHELVES))
            changed = kept_lines(first)
            self.assertNotEqual(kept_lines(second), changed)
            deed(second)
            self.assertEqual(kept_lines(second), changed)
            self.assertEqual(kept_lines(first), changed)

    def test_lines_are_changed_behind_the_call(self):
        house = house_of(SHELVES)
        lines = kept_lines(house)
        other = risen(lines)
        wanted = list(lines)
        lines.reverse()
        lines.pop()
        self.check_kept(other, PlainHouse(SHELVES))
        self.check_list(kept_lines(house), wanted)
        told = kept_lines(house)
        house.take("a")
        self.assertEqual(told, wanted)


class BadLinesTest(KeptCase):
    def setUp(self):
        self.lines = kept_lines(house_of(SHELVES))
        self.many = len(self.lines)

    def test_what_is_no_list(self):
        lines = self.lines
        for thing in no_lists() + [tuple(lines), "\n".join(lines), dict(enumerate(lines)), iter(lines)]:
            self.check_bad(thing, 0)

    def test_what_is_no_str(self):
        for thing in no_strs() + [list(self.lines), (self.lines[0],)]:
            for row in range(self.many + 1):
                self.check_bad(self.lines[:row] + [thing] + self.lines[row:], row)
                self.check_bad(self.lines[:row] + [thing] + self.lines[row + 1:], row)
            self.check_bad([thing], 0)

    def test_the_first_lines_alone(self):
        for row in range(self.many):
            self.check_bad(self.lines[:row], row)
        self.check_bad([], 0)

    def test_each_sign_exchanged_left_out_and_put_in(self):
        others = ["0", "1", "f", "A", "a", " ", "\\", "n", "\n", "\t", "~"]
        for row, line in enumerate(self.lines):
            for place in range(len(line) + 1):
                for changed in [line[:place] + line[place + 1:]] + [
                    line[:place] + sign + line[place + off:] for sign in others for off in (0, 1)
                ]:
                    if changed != line:
                        self.check_bad(self.lines[:row] + [changed] + self.lines[row + 1:], row)

    def test_whole_lines_left_out_twice_or_exchanged(self):
        for row in range(self.many):
            self.assertEqual(self.check_lines(self.lines[:row] + self.lines[row + 1:]), row)
            self.assertEqual(self.check_lines(self.lines[:row + 1] + self.lines[row:]), row + 1)
        for one, other in itertools.combinations(range(self.many), 2):
            lines = list(self.lines)
            lines[one], lines[other] = lines[other], lines[one]
            self.assertEqual(self.check_lines(lines), one)

    def test_one_more_behind(self):
        rests = looked_rests(SHELVES)
        for rest in ["", "end 3", "end 0", "end 4", "book 1", "k a", "k "]:
            self.check_rests(rests + [rest], self.many)
            self.check_rests(["end 0", rest], 1)
        for line in (self.lines[-1], self.lines[0], "", " ", "00000000 "):
            self.check_bad(self.lines + [line], self.many)

    def test_checks_in_great_letters(self):
        for row, line in enumerate(self.lines):
            self.assertNotEqual(line[:8].upper(), line[:8])
            self.check_bad(self.lines[:row] + [line[:8].upper() + line[8:]] + self.lines[row + 1:], row)

    def test_short_lines(self):
        for line in ("", " ", "0", "00000000", "00000000 ", "06669430", "06669430 ", "06669430 end", "06669430end 0"):
            for row in range(self.many):
                self.check_bad(self.lines[:row] + [line] + self.lines[row + 1:], row)

    def test_rests_by_themselves(self):
        for row, line in enumerate(self.lines):
            self.check_bad(self.lines[:row] + [line[9:]] + self.lines[row + 1:], row)
        self.check_bad([line[9:] for line in self.lines], 0)


class BadRestsTest(KeptCase):
    def test_what_may_be(self):
        for rests in (
            ["end 0"], ["book 1", "k a", "end 1"], ["book 1", "end 1", "end 1"], ["book 2", "book 1", "k ", "end 1"],
            ["book 1", "a ", "book 1", "b x\\n\\\\", "end 2"], ["book 1", "abcdefghij12  ", "end 1"],
            ["book 1", "k " + "a" * 2000, "end 1"], ["book 1", "k " + "\\n\\\\" * 1000, "end 1"],
        ):
            self.check_rests(rests, None)

    def test_numbers_of_books(self):
        for rest in (
            "book 0", "book 00", "book 01", "book 001", "book", "book ", "book  1", "book 1 ", "book a", "book -1",
            "book +1", "book 1a", "book 1_0", "book 1.0", "book 1000000000", "book 9999999999", "book 1\n", "book \t1",
            " book 1", "Book 1", "books 1", "book1", "k a", "", " ", "end", "end ", "book " + "9" * 5000,
            "book 0" + "1" * 9,
        ):
            self.check_rests([rest, "k a", "end 1"], 0)
            self.check_rests(["book 1", "x ", rest, "k a", "end 2"], 2)
        for rest in ("book 2", "book 10", "book 999999999", "book 100000000"):
            self.check_rests([rest, "k a", "end 1"], 3)
            self.check_rests([rest], 1)

    def test_numbers_behind_end(self):
        for books in (0, 1, 2, 12):
            rests = []
            for book in range(books):
                rests += ["book 1", "k" + str(book) + " a"]
            for rest in (
                f"end {books + 1}", f"end {books - 1}", f"end 0{books}", f"end  {books}", f"end {books} ", "end",
                "end ", f"end{books}", f"End {books}", f" end {books}", f"end {books}\n", f"end +{books}",
                f"end {books}0", "end " + "9" * 5000,
            ):
                self.check_rests(rests + [rest], len(rests))
                self.check_rests(rests + [rest, f"end {books}"], len(rests))
            self.check_rests(rests + [f"end {books}"], None)
            self.check_rests(rests, len(rests))

    def test_fewer_and_more_texts_than_told(self):
        self.check_rests(["book 2", "a x", "end 1"], 3)
        self.check_rests(["book 3", "a x", "end 1"], 3)
        self.check_rests(["book 2", "a x", "book 1", "b y", "end 2"], 3)
        self.check_rests(["book 2", "a x", "book 1", "book 1", "end 2"], 5)
        self.check_rests(["book 1", "a x", "b y", "end 1"], 2)
        self.check_rests(["book 1", "a x", "book 1", "end 2"], 4)
        self.check_rests(["end 0", "book 1", "a x", "end 1"], 1)
        self.check_rests(["a x", "end 0"], 0)

    def test_keys(self):
        for rest in (
            "", " ", " x", "a", "abc", "A x", "aB x", "a-b x", "abcdefghij123 x", "\\n x", "a\tx", "a\n x", "a* x", "-",
            "book", "end",
        ):
            self.check_rests(["book 1", rest, "end 1"], 1)
            self.check_rests(["book 3", "k ", rest, "l ", "end 1"], 2)

    def test_a_key_twice(self):
        self.check_rests(["book 2", "a x", "a x", "end 1"], 2)
        self.check_rests(["book 2", "a x", "a y", "end 1"], 2)
        self.check_rests(["book 1", "a x", "book 1", "a ", "end 2"], 3)
        self.check_rests(["book 2", "a x", "b ", "book 3", "c ", "d ", "b ", "end 2"], 6)
        self.check_rests(["book 2", "end 1", "end 1"], 2)

    def test_texts(self):
        for text in (
            "\\", "a\\", "\\a", "\\\\\\", "\\ ", "\\N", "\n", "a\nb", "\t", "a\tb", "a" * 2001, " " * 2001,
            "\\n" * 2001, "\\\\" * 2001, "a" * 2000 + "\\n", "a" * 2000 + "\\", "a" * 100000,
        ):
            self.check_rests(["book 1", "k " + text, "end 1"], 1)
            self.check_rests(["book 2", "a ", "k " + text, "end 1"], 2)
            self.check_rests(["book 1", "a ", "book 1", "k " + text, "end 2"], 3)

    def test_by_chance(self):
        chance = random.Random(62)
        choice = [
            "book 1", "book 2", "book 0", "end 0", "end 1", "end 2", "a x", "b ", "c \\n", "d \\x", "book \\n", "a ",
            "end", "e",
        ]
        told = {}
        for turn in range(4000):
            rests = ["book " + chance.choice("12")] * chance.choice((0, 1, 1, 1))
            rests += [chance.choice(choice) for line in range(chance.randrange(7))]
            rests += ["end " + chance.choice("01")] * chance.choice((0, 1))
            wrong = self.check_lines(with_checks(rests))
            told[wrong] = told.get(wrong, 0) + 1
        self.assertGreater(told[None], 50)
        self.assertGreater(len(told), 7)

    def test_a_refusal_changes_nothing(self):
        lines = with_checks(["book 2", "a x", "a y", "end 1"])
        handed = list(lines)
        self.check_bad(handed, 2)
        self.assertEqual(handed, lines)


if __name__ == "__main__":
    unittest.main()
