import inspect
import random
import unittest

from findhall.asks import Word
from findhall.desk import Desk
from findhall.fractions import shown_fraction
from findhall.house import House, house_of
from findhall.keeping import flat
from findhall.reading import read_ask
from handed import HouseCase, PlainDesk, PlainHouse, chance_line, no_strs

NO_LINE = ["no such line"]
MANY = [("k" + str(number), "a " * (number % 7 + 1) + "b [c]\n" * (number % 3)) for number in range(25)]


class DeskCase(HouseCase):
    def check_answer(self, desk, line, *wanted):
        told = desk.answer(line)
        self.check_list(told, list(wanted))
        for one in told:
            self.assertIs(type(one), str)

    def check_none(self, desk, line):
        """It is no such line, and changes nothing."""
        shelves = desk.house.shelves()
        self.check_answer(desk, line, "no such line")
        self.check_house(desk.house, PlainHouse(shelves))

    def some_desk(self):
        return Desk(house_of([[("k3", "The [cat]\nsat"), ("k1", "")], [("z", "cat \\ dog")]]))


class LinesTest(DeskCase):
    def test_each_line_in_its_ordinary_form(self):
        desk = Desk()
        for line, *wanted in (
            ("keys", "nothing"), ("books", "nothing"), ("pour", "done"), ("more", "no question"), ("show a", "no text"),
            ("take a", "no text"), ("put b The cat\\nand \\\\ dog", "done"), ("put a cat, cat!", "done"),
            ("put c2 ", "done"), ("keys", "a", "b", "c2"), ("books", "2 1"), ("show b", "The cat\\nand \\\\ dog"),
            ("show a", "cat, cat!"), ("show c2", ""), ("put a x", "twice"), ("put A x", "bad key"),
            ("put d x\\x", "bad text"), ("ask zzz", "0 found"), ("more", "no more"),
            # Three texts, six words, cat in two: 4/3 rare; twice of two words 24 over 18 + 6, once of four 12 over 24.
            ("ask cat", "2 found", "a 4/3", "> [cat, cat]", "b 2/3", "> The [cat]\\nand \\\\ dog"),
            ("ask not cat", "1 found", "c2 0"), ("ask cat and", "no ask 7"), ("more", "no more"), ("pour", "done"),
            ("books", "3"), ("take a", "done"), ("take a", "no text"), ("show a", "no text"), ("keys", "b", "c2"),
            ("books", "2"), ("take b", "done"), ("take c2", "done"), ("keys", "nothing"), ("books", "nothing"),
        ):
            self.check_answer(desk, line, *wanted)
        self.check_house(desk.house, PlainHouse())

    def test_what_is_no_str(self):
        for desk in (Desk(), self.some_desk()):
            for thing in no_strs() + [["keys"], ("keys",), b"keys", {"keys": 1}]:
                self.check_none(desk, thing)

    def test_words_that_want_a_rest_without_it(self):
        for desk in (Desk(), self.some_desk()):
            for line in ("put", "take", "show", "ask", "put k3", "put ", "put k3x", "put\nk a", "take\tk3"):
                self.check_none(desk, line)

    def test_words_that_want_none_with_it(self):
        for desk in (Desk(), self.some_desk()):
            desk.answer("ask cat")
            for word in ("keys", "books", "pour", "more"):
                for rest in (" ", "  ", " a", " k3", " keys", "\n", "\t", "s", " \n", "*", "."):
                    self.check_none(desk, word + rest)

    def test_other_lines(self):
        for desk in (Desk(), self.some_desk()):
            for line in (
                "", " ", "  ", "\n", " keys", "Keys", "KEYS", "key", "keyskeys", "Put a b", "PUT a b", " put a b",
                "puta b", "tak k3", "takes k3", "Take k3", " take k3", "shows k3", "Show k3", "asks cat", "Ask cat",
                "aska", "no", "no such line", "done", "nothing", "end 0", "book 1", "has k3", "text k3",
                "found cat", "house",
                "answer", "quit", "keys\n", "\tkeys", "~", "k" * 100000, " " * 100000, "put" + "k" * 100000,
                "\n" * 5000, "ke ys",
            ):
                self.check_none(desk, line)

    def test_the_interface(self):
        self.assertEqual(str(inspect.signature(Desk)), "(house=None)")
        self.assertEqual(str(inspect.signature(Desk.answer)), "(self, line)")
        self.assertEqual(Desk(house=None).answer(line="keys"), ["nothing"])

    def test_a_house_handed_in_and_none(self):
        house = house_of([[("k", "cat")]])
        desk = Desk(house)
        self.assertIs(desk.house, house)
        self.check_answer(desk, "keys", "k")
        self.check_answer(desk, "put a dog", "done")
        self.check_list(house.all_keys(), ["a", "k"])
        house.take("k")
        self.check_answer(desk, "keys", "a")
        empty = House()
        self.assertIs(Desk(empty).house, empty)
        for made in (Desk(), Desk(None), Desk(house=None)):
            self.assertIs(type(made.house), House)
            self.check_house(made.house, PlainHouse())
            self.check_answer(made, "put k x", "done")
            self.check_list(made.house.all_keys(), ["k"])
        self.check_house(Desk().house, PlainHouse())


class PutTest(DeskCase):
    def test_keys_that_are_none(self):
        desk = self.some_desk()
        shelves = desk.house.shelves()
        for key in ("", "A", "aB", "a-b", "a" * 13, "a\n", "a\t", "\\n", "*", "k" * 100000):
            for text in ("x", "", " ", "\\", "\\x", "a\nb", "\t", "a" * 2001, "x y z"):
                self.check_answer(desk, f"put {key} {text}", "bad key")
        self.check_answer(desk, "put  k3 x", "bad key")
        self.check_answer(desk, "put   ", "bad key")
        self.check_answer(desk, "put  ", "bad key")
        self.check_house(desk.house, PlainHouse(shelves))

    def test_texts_that_are_none(self):
        desk = self.some_desk()
        shelves = desk.house.shelves()
        for key in ("free", "k3", "k1"):
            for text in (
                "\\", "\\x", "a\\", "\\\\\\", "\n", "a\nb", "\t", "a\tb", "a" * 2001, "\\n" * 2001, " " * 2001, "\\ n",
                "a" * 100000, "\\" * 100001, "\t\\",
            ):
                self.check_answer(desk, f"put {key} {text}", "bad text")
        self.check_house(desk.house, PlainHouse(shelves))

    def test_twice(self):
        desk = self.some_desk()
        shelves = desk.house.shelves()
        for key in ("k3", "k1", "z"):
            for text in ("", "x", " ", "The [cat]\\nsat", "a" * 2000):
                self.check_answer(desk, f"put {key} {text}", "twice")
        self.check_house(desk.house, PlainHouse(shelves))

    def test_texts(self):
        desk, plain = Desk(), PlainHouse()
        for number, text in enumerate((
            "", " ", "  x ", "a b c", "\n", "\\", "\\n", "\\\n\\", "keys", "a" * 2000, "\n" * 2000, "\\" * 2000,
            "~ [x] \"",
        )):
            key = "k" + str(number)
            self.check_answer(desk, f"put {key} {flat(text)}", "done")
            plain.put(key, text)
            self.check_house(desk.house, plain)
            self.check_answer(desk, f"show {key}", flat(text))

    def test_take_and_show_of_keys_that_no_text_has(self):
        desk = self.some_desk()
        shelves = desk.house.shelves()
        for key in ("", " ", "k", "k33", "K3", " k3", "k3 ", "k3 z", "k3\n", "\t", "*", "k" * 100000, "free", "[k3]"):
            self.check_answer(desk, "take " + key, "no text")
            self.check_answer(desk, "show " + key, "no text")
        self.check_house(desk.house, PlainHouse(shelves))

    def test_the_books(self):
        desk = Desk()
        for number, books in enumerate(("1", "2", "2 1", "4", "4 1", "4 2", "4 2 1", "8", "8 1")):
            self.check_answer(desk, f"put k{number} x", "done")
            self.check_answer(desk, "books", books)
        self.check_answer(desk, "take k8", "done")
        self.check_answer(desk, "books", "8")
        self.check_answer(desk, "pour", "done")
        self.check_answer(desk, "books", "8")
        desk = Desk(house_of([[("k" + str(number), "")] for number in range(12)]))
        self.check_answer(desk, "books", "1 1 1 1 1 1 1 1 1 1 1 1")
        self.check_answer(desk, "keys", *sorted("k" + str(number) for number in range(12)))
        self.check_answer(desk, "pour", "done")
        self.check_answer(desk, "books", "12")


class AskTest(DeskCase):
    def rows(self, house, ask, first, many):
        """Rows by what the house itself ranks."""
        lines = []
        for key, worth in house.ranked(ask, first, many):
            lines.append(key + " " + shown_fraction(worth))
            lines += ["> " + piece for piece in house.pieces(key, ask, 3, 3)]
        return lines

    def test_pieces_by_hand(self):
        desk = Desk()
        desk.answer("put k one two three four five [six] one\\nseven \\\\eight nine ten one b one b one")
        # One text of 16 words: what stands there five times has a share of 10 * 16 over 6 * 16 + 16, and is 1 rare.
        shown = "[one] two three four five \\[six\\] [one]\\nseven \\\\eight nine ten [one] b [one] b [one]"
        self.check_answer(desk, "ask one", "1 found", "k 10/7", "> " + shown)
        self.check_answer(desk, "ask three", "1 found", "k 2/3", "> one two [three] four five \\[six ...")
        self.check_answer(desk, "ask b and not zzz", "1 found", "k 1", "> ... nine ten one [b] one [b] one")
        self.check_answer(desk, "ask one or not two", "1 found", "k 10/7", *desk.answer("ask one")[2:])
        self.check_answer(desk, "ask not zzz", "1 found", "k 0")
        desk.answer("put m a b b b b b b b a b b b b b b b a b b b b b b b a")
        self.check_answer(desk, "ask a", "1 found", "m " + shown_fraction(desk.house.ranked(Word("a"))[0][1]), *[
            "> [a] b b b ...", "> ... b b b [a] b b b ...", "> ... b b b [a] b b b ..."])

    def test_more_till_there_are_no_more(self):
        desk = Desk(house_of([MANY[:9], MANY[9:]]))
        for line, many in (("a", 25), ("b", 16), ("not b", 9), ("a b", 16), ("c ~3 b or zzz", 16), ('"a b"', 16)):
            ask = read_ask(line)
            self.check_answer(desk, "ask " + line, f"{many} found", *self.rows(desk.house, ask, 0, 10))
            first = 10
            while first < many:
                self.check_answer(desk, "more", *self.rows(desk.house, ask, first, 10))
                first += 10
            for turn in range(3):
                self.check_answer(desk, "more", "no more")

    def test_more_behind_a_text_that_is_put(self):
        desk = Desk(house_of([[("b", "a x x"), ("c", "a x x")]]))
        self.assertEqual(desk.answer("ask a")[0], "2 found")
        self.check_answer(desk, "more", "no more")
        # What is put stands behind those that were told.
        desk.answer("put d a x x")
        self.check_answer(desk, "more", *self.rows(desk.house, Word("a"), 2, 10))
        self.assertEqual(desk.house.ranked(Word("a"))[2][0], "d")
        self.check_answer(desk, "more", "no more")
        # It stands ahead of them now, so that the last one is told once more.
        desk.answer("put a a a a")
        self.check_answer(desk, "more", *self.rows(desk.house, Word("a"), 3, 10))
        self.assertEqual(desk.house.ranked(Word("a"))[3][0], "d")
        self.check_answer(desk, "more", "no more")

    def test_more_where_nothing_was_found(self):
        desk = Desk()
        self.check_answer(desk, "more", "no question")
        self.check_answer(desk, "ask a", "0 found")
        self.check_answer(desk, "more", "no more")
        desk.answer("put k a")
        self.check_answer(desk, "more", "k 2/3", "> [a]")
        self.check_answer(desk, "more", "no more")
        desk.answer("put l a")
        self.check_answer(desk, "more", "l 2/3", "> [a]")

    def test_more_behind_a_taking_out(self):
        desk = Desk(house_of([MANY]))
        ask = read_ask("a")
        desk.answer("ask a")
        for key in [key for key, worth in desk.house.ranked(ask, 0, 4)]:
            self.check_answer(desk, "take " + key, "done")
        self.check_answer(desk, "more", *self.rows(desk.house, ask, 10, 10))
        self.check_answer(desk, "more", *self.rows(desk.house, ask, 20, 10))
        self.assertEqual(len(desk.house.found(ask)), 21)
        for key in [key for key, worth in desk.house.ranked(ask, 0, 5)]:
            desk.answer("take " + key)
        self.check_answer(desk, "more", "no more")
        for number in range(6):
            desk.answer(f"put n{number} a")
        self.assertEqual(len(desk.house.found(ask)), 22)
        self.check_answer(desk, "more", *self.rows(desk.house, ask, 21, 10))
        for key in desk.house.all_keys():
            desk.answer("take " + key)
        self.check_answer(desk, "more", "no more")

    def test_refused_questions(self):
        for ahead in (None, "ask a", "ask not b"):
            desk = Desk(house_of([MANY]))
            if ahead:
                desk.answer(ahead)
            for line, wanted in (
                ("ask ", "no ask 0"), ("ask  ", "no ask 1"), ("ask (", "no ask 1"), ("ask and a", "no ask 0"),
                ("ask a and", "no ask 5"), ("ask a ) b", "no ask 2"), ("ask a ~21 b", "no ask 2"),
                ("ask a\nb", "no ask 1"),
                ("ask  a or or", "no ask 6"), ("ask a - b", "no ask 2"), ("ask \"a", "no ask 0"), ("ask *", "no ask 0"),
                ("ask " + "not " * 8 + "a", "no ask 33"), ("ask " + "a " * 21, "no ask 42"), ("ask a\tb", "bad text"),
                ("ask \t", "bad text"), ("ask " + "a" * 2001, "bad text"), ("ask " + "a " * 50000, "bad text"),
                ("ask " + "(" * 2000, "no ask 12"), ("ask " + "\n" * 2000, "no ask 0"), ("ask (\t", "bad text"),
            ):
                self.check_answer(desk, line, wanted)
            if ahead:
                ask = read_ask(ahead[4:])
                wanted = self.rows(desk.house, ask, 10, 10) or ["no more"]
                self.check_answer(desk, "more", *wanted)
                self.check_answer(desk, "ask )", "no ask 0")
                self.check_answer(desk, "more", *self.rows(desk.house, ask, 20, 10) or ["no more"])
            else:
                self.check_answer(desk, "more", "no question")
            self.check_house(desk.house, PlainHouse([MANY]))

    def test_a_new_question_begins_ahead(self):
        desk = Desk(house_of([MANY]))
        first = desk.answer("ask a")
        second = desk.answer("more")
        self.assertNotEqual(first[1:], second)
        self.assertEqual(desk.answer("ask a"), first)
        self.assertEqual(desk.answer("more"), second)
        desk.answer("ask b")
        self.check_answer(desk, "more", *self.rows(desk.house, Word("b"), 10, 10))

    def test_other_lines_between_leave_the_place(self):
        desk = Desk(house_of([MANY]))
        desk.answer("ask a")
        for line in ("keys", "books", "show k3", "take zzz", "put k3 x", "pour", "more ", "no", "put free \\x", "show"):
            desk.answer(line)
        self.check_answer(desk, "more", *self.rows(desk.house, Word("a"), 10, 10))

    def test_the_question_is_read_as_it_stands(self):
        desk = Desk(house_of([[("k", "A [b]"), ("l", "and")]]))
        for line in ("ask a b", "ask  A   B ", "ask (a) and (b)", "ask A and B"):
            self.assertEqual(desk.answer(line)[:2], desk.answer("ask a and b")[:2])
        self.assertEqual(desk.answer('ask "and"')[0], "1 found")
        self.assertEqual(desk.answer("ask and*")[0], "1 found")
        self.assertEqual(desk.answer("ask " + "a " * 8 + " " * 1984)[0], "1 found")

    def test_great_worths_are_written_whole(self):
        desk = Desk(house_of([[("k" + str(number), "a b c " * (number * 7 + 1)) for number in range(30)]]))
        line = "a b or b ~2 c or a* or (b or \"a b c\") or a ~1 b or (a ~5 c or c ~0 a)"
        ask = read_ask(line)
        told = desk.answer("ask " + line)
        self.assertEqual(told, ["30 found"] + self.rows(desk.house, ask, 0, 10))
        above, below = desk.house.ranked(ask)[1][1]
        self.assertIn(f"{desk.house.ranked(ask)[1][0]} {above}/{below}", told)


class AgainstPlainTest(DeskCase):
    def test_by_chance(self):
        # The seed is fixed, so that each run asks the same.
        chance = random.Random(71)
        for turn in range(25):
            shelves = [[("k" + str(number), "a b cat")] for number in range(chance.choice((0, 3, 13)))]
            desk, plain = Desk(house_of(shelves)), PlainDesk(shelves)
            for deed in range(60):
                line, name, handed = chance_line(chance)
                self.check_answer(desk, line, *getattr(plain, name)(*handed))
            self.check_house(desk.house, plain.house)

    def test_two_desks_side_by_side(self):
        chance = random.Random(72)
        desks = [(Desk(), PlainDesk()) for turn in range(2)]
        for deed in range(120):
            desk, plain = chance.choice(desks)
            line, name, handed = chance_line(chance)
            self.check_answer(desk, line, *getattr(plain, name)(*handed))

    def test_two_desks_of_one_house(self):
        house = house_of([MANY])
        one, other = Desk(house), Desk(house)
        one.answer("ask a")
        self.check_answer(other, "more", "no question")
        other.answer("ask b")
        other.answer("take k1")
        plain = PlainDesk(house.shelves())
        plain.asked, plain.place = ("word", "a"), 10
        self.check_answer(one, "more", *plain.more())
        plain.asked, plain.place = ("word", "b"), 10
        self.check_answer(other, "more", *plain.more())

    def test_told_lines_are_changed(self):
        desk, plain = Desk(house_of([MANY])), PlainDesk([MANY])
        for line, call in (
            ("keys", plain.keys), ("ask a", lambda: plain.ask(("word", "a"))), ("more", plain.more),
            ("books", plain.books), ("show k3", lambda: plain.show("k3")), ("more", plain.more), ("more", plain.more),
            ("pour", plain.pour), ("x", None),
        ):
            told = desk.answer(line)
            self.check_list(told, call() if call else NO_LINE)
            told.clear()
            self.check_list(desk.answer("keys"), plain.keys())
            self.check_list(desk.answer("x"), NO_LINE)
            desk.answer("keys").append("zzz")
            self.check_house(desk.house, plain.house)


if __name__ == "__main__":
    unittest.main()
