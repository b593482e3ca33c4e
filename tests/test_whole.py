"""What the document promises over the whole program."""
import importlib
import inspect
import pathlib
import random
import unittest

import findhall
from findhall.asks import Near, Row, Word, ask_of
from findhall.books import Book
from findhall.desk import Desk
from findhall.errors import (
    BadAsk, BadKept, BadKey, BadNumber, BadParts, BadRow, BadSpan, BadText, BadWord, HallError, NoAsk, NoLine, NoText,
    Twice,
)
from findhall.finding import counted, spans_in, texts_in
from findhall.fractions import fraction
from findhall.house import House, house_of
from findhall.keeping import flat, kept_lines, meant, risen
from findhall.ordering import Best, in_order
from findhall.packing import packed, unpacked
from findhall.pieces import pieces_of, windows
from findhall.pouring import poured
from findhall.reading import read_ask
from findhall.rows import packed_row, unpacked_row
from findhall.showing import read_shown, shown_line
from findhall.signs import need_key, need_number, need_text
from findhall.walks import Walk
from findhall.words import need_word, plain_words, words_in
from findhall.worth import rarity_of, share_of, worth_of
from handed import HouseCase, PlainDesk, PlainHouse, Thing, chance_line

MODULES = {
    "errors": """HallError BadNumber BadText BadKey BadWord BadParts BadRow BadAsk BadSpan NoText Twice NoLine NoAsk
        BadKept""",
    "signs": "is_whole is_text is_key need_text need_key need_number",
    "words": "is_word need_word words_in plain_words",
    "fractions": "fraction sum_of product_of is_less shown_fraction",
    "packing": "packed unpacked", "rows": "packed_row unpacked_row", "walks": "Walk", "books": "Book",
    "pouring": "poured", "asks": "Ask Word Start Row Near Both Either Not ask_of", "reading": "read_ask",
    "finding": "texts_in spans_in counted", "worth": "share_of rarity_of worth_of", "ordering": "in_order Best",
    "pieces": "windows pieces_of", "showing": "shown_line read_shown", "house": "House house_of",
    "keeping": "flat meant kept_lines risen", "desk": "Desk",
}
SHELVES = [[("k3", "The [cat]\nsat"), ("k1", "")], [("z", "a cat \\ cat")], [("b", "b"), ("c", "the cat, the cat")]]
ASKS = [read_ask(line) for line in ("cat", "the*", '"the cat"', "the ~1 cat", "a or b", "not cat", "cat and not b")]


def all_told(house):
    """Whatever a house tells but for its books."""
    told = [(house.found(ask), house.ranked(ask), house.ranked(ask, 1, 2)) for ask in ASKS]
    pieces = [house.pieces(key, ask, around, 2) for key in house.all_keys() for ask in ASKS for around in (0, 3)]
    texts = [(key, house.text(key)) for key in house.all_keys()]
    return told, pieces, texts, house.many(), house.total()


def garble(told):
    """All lists within what was told are changed."""
    if isinstance(told, (list, tuple)):
        for one in told:
            garble(one)
    if isinstance(told, list):
        told.reverse()
        told.append("zzz")
        told[0] = None


class InterfaceTest(unittest.TestCase):
    def test_all_names_are_there(self):
        folder = pathlib.Path(findhall.__file__).parent
        names = sorted(path.stem for path in folder.glob("*.py"))
        self.assertEqual(names, sorted(list(MODULES) + ["__init__"]))
        for module, names in MODULES.items():
            there = importlib.import_module("findhall." + module)
            for name in names.split():
                self.assertTrue(callable(getattr(there, name)))
                self.assertEqual(getattr(there, name).__module__, "findhall." + module)

    def test_values_that_arguments_have_where_they_are_left_out(self):
        for call, arguments in (
            (need_number, "(thing, least, most=None)"), (fraction, "(above, below=1)"), (Book, "(pairs, rows=None)"),
            (poured, "(books, gone=None)"), (Best, "(most=10)"), (pieces_of, "(text, spans, around=3, most=3)"),
            (House.ranked, "(self, ask, first=0, many=10)"), (House.pieces, "(self, key, ask, around=3, most=3)"),
            (Desk, "(house=None)"),
        ):
            self.assertEqual(str(inspect.signature(call)), arguments)


class DesksTest(HouseCase):
    def test_risen_desks_answer_as_one_that_went_on(self):
        # The seed is fixed, so that each run asks the same.
        chance = random.Random(81)
        for turn in range(15):
            went_on, plain = Desk(), PlainDesk()
            rises = Desk()
            for deed in range(60):
                if chance.random() < 0.2:
                    rises.house = risen(kept_lines(rises.house))
                line, name, handed = chance_line(chance)
                wanted = getattr(plain, name)(*handed)
                self.check_list(went_on.answer(line), wanted)
                self.check_list(rises.answer(line), wanted)
            self.assertEqual(kept_lines(rises.house), kept_lines(went_on.house))

    def test_a_new_desk_of_a_risen_house(self):
        chance = random.Random(82)
        first = Desk()
        for deed in range(40):
            first.answer(chance_line(chance)[0])
        second = Desk(risen(kept_lines(first.house)))
        first = Desk(first.house)
        for deed in range(80):
            line = chance_line(chance)[0]
            self.assertEqual(first.answer(line), second.answer(line))

    def test_one_that_pours_answers_as_one_that_does_not(self):
        chance = random.Random(83)
        for turn in range(15):
            plain, pours = Desk(), Desk()
            for deed in range(60):
                if chance.random() < 0.3:
                    self.assertEqual(pours.answer("pour"), ["done"])
                line = chance_line(chance)[0]
                while line in ("books", "pour"):
                    line = chance_line(chance)[0]
                self.assertEqual(plain.answer(line), pours.answer(line))
            self.assertEqual(all_told(plain.house), all_told(pours.house))

    def test_pieces_are_read_back(self):
        chance = random.Random(84)
        desk = Desk()
        read = 0
        for deed in range(400):
            for line in desk.answer(chance_line(chance)[0]):
                if line.startswith("> "):
                    ahead, signs, marks, behind = read_shown(line[2:])
                    self.assertTrue(any(signs in desk.house.text(key) for key in desk.house.all_keys()))
                    read += 1
        self.assertGreater(read, 100)


class OwnTest(HouseCase):
    def test_what_is_told_is_changed(self):
        house, plain = house_of(SHELVES), PlainHouse(SHELVES)
        desk = Desk(house)
        book = Book([pair for shelf in SHELVES for pair in shelf])
        walk = book.walk_of("cat")
        lines = kept_lines(house)
        best = Best(2)
        best.offer("a", (1, 2))
        calls = [
            lambda: all_told(house), house.shelves, house.books, house.all_keys, lambda: kept_lines(house),
            lambda: risen(lines).shelves(), lambda: read_shown("[a] b [c]"), lambda: desk.answer("ask cat"),
            lambda: desk.answer("keys"), lambda: desk.answer("books"), lambda: desk.answer("no"),
            lambda: pieces_of("a b c", [(0, 0), (2, 2)], 1), lambda: windows(9, [(3, 4)], 1), book.words,
            lambda: book.starts("c"), lambda: book.parts_of("cat"), lambda: book.row_of("cat"), walk.rest, best.told,
            lambda: ASKS[3].kids()[0].told(), lambda: [ask.told() for ask in ASKS[4].kids() + ASKS[4].leaves()],
            lambda: [texts_in(book, ask) for ask in ASKS], lambda: [spans_in(book, ask, 0) for ask in ASKS],
            lambda: [counted(book, ask) for ask in ASKS[:4]], lambda: words_in("a b"), lambda: plain_words("a b"),
            lambda: packed([5, 300]), lambda: unpacked([5, 172, 2]), lambda: packed_row([(2, (0, 3))]),
            lambda: unpacked_row([2, 1, 0, 2]), lambda: in_order([("b", (1, 2)), ("a", (1, 2))]),
        ]
        ahead = [call() for call in calls]
        for call in calls:
            garble(call())
        for kids in (ASKS[4].kids(), ASKS[4].leaves(), ASKS[3].kids(), ASKS[0].leaves()):
            kids.clear()
        self.assertEqual([call() for call in calls], ahead)
        self.check_house(house, plain)
        later = [call() for call in reversed(calls)]
        self.assertEqual(list(reversed(later)), ahead)

    def test_what_is_told_stays_whatever_is_done_later(self):
        house = house_of(SHELVES)
        desk = Desk(house)
        calls = [
            house.shelves, house.books, house.all_keys, lambda: all_told(house), lambda: kept_lines(house),
            lambda: desk.answer("ask cat or b"), lambda: desk.answer("keys"), lambda: desk.answer("show z"),
        ]
        told, wanted = [call() for call in calls], [call() for call in calls]
        for line in ("put new cat", "take k3", "pour", "ask b", "more", "take z", "put k3 x", "take c", "take b"):
            desk.answer(line)
            for call in calls[:5]:
                garble(call())
            self.assertEqual(told, wanted)

    def test_lists_handed_in_stay_and_are_changed_later(self):
        shelves = [list(shelf) for shelf in SHELVES]
        lines = kept_lines(house_of(shelves))
        words, spans, rows = ["the", "cat"], [(2, 2), (0, 0)], [("b", (1, 2)), ("a", (1, 3))]
        pairs, parts, marks = list(SHELVES[0]), [2, 1, 0, 2], [(0, 1)]
        house, other = house_of(shelves), risen(lines)
        book, walk, row = Book(pairs), Walk(parts), Row(words)
        ask = Near(row, Word("a"), 2)
        gone = [(0, 0)]
        books = [book, Book([("x", "y")])]
        less = poured(books, gone)

        def told():
            return (
                house.shelves(), all_told(house), other.shelves(), all_told(other), book.words(), book.many(),
                walk.rest(), ask.told(), less.key_of(0), less.many(), less.words(),
            )

        first = told()
        shown = (windows(9, spans, 1), in_order(rows), shown_line("a b", (0, 3, marks)))
        self.assertEqual((shelves, words, spans), (SHELVES, ["the", "cat"], [(2, 2), (0, 0)]))
        self.assertEqual((rows, pairs, parts), ([("b", (1, 2)), ("a", (1, 3))], SHELVES[0], [2, 1, 0, 2]))
        self.assertEqual((marks, gone, len(books)), ([(0, 1)], [(0, 0)], 2))
        for some in (shelves, lines, words, spans, rows, pairs, parts, marks, gone, books):
            garble(some)
        self.assertEqual(told(), first)
        self.assertEqual(shown, ([(0, 3)], [("b", (1, 2)), ("a", (1, 3))], "[a] b"))


class RefusedTest(HouseCase):
    def test_each_refusal_by_its_name(self):
        house = house_of(SHELVES)
        book = Book(SHELVES[0])
        for refusal, call, *handed in (
            (BadNumber, need_number, True, 0), (BadNumber, fraction, 1, 0), (BadNumber, packed, [-1]),
            (BadNumber, Walk([]).leap, -1), (BadNumber, book.key_of, 2), (BadNumber, poured, [book], [(1, 0)]),
            (BadNumber, spans_in, book, Word("a"), 2), (BadNumber, share_of, -1, 1, 1, 1),
            (BadNumber, rarity_of, 1, -1), (BadNumber, worth_of, [], [], -1, 1, 1), (BadNumber, Best, -1),
            (BadNumber, windows, -1, [], 1),
            (BadNumber, pieces_of, "a", [], -1), (BadNumber, house.ranked, ASKS[0], -1),
            (BadNumber, house.pieces, "k3", ASKS[0], -1), (BadText, need_text, "\t"), (BadText, words_in, None),
            (BadText, plain_words, "a" * 2001), (BadText, Book, [("a", None)]), (BadText, read_ask, None),
            (BadText, pieces_of, None, []), (BadText, shown_line, None, None), (BadText, house.put, "new", None),
            (BadText, house_of, [[("a", None)]]), (BadKey, need_key, ""), (BadKey, Book, [("", None)]),
            (BadKey, house.put, None, None), (BadKey, house_of, [[("A", None)]]), (BadWord, need_word, "A"),
            (BadWord, book.starts, ""), (BadWord, book.row_of, None), (BadWord, book.parts_of, Thing()),
            (BadWord, book.walk_of, []), (BadParts, unpacked, [128]), (BadParts, unpacked_row, [0]),
            (BadParts, Walk, None), (BadRow, packed_row, [(0, ())]), (BadAsk, ask_of, None),
            (BadSpan, windows, 1, [(1, 1)], 0),
            (BadSpan, pieces_of, "a", [(0, 1)]), (BadSpan, shown_line, "a", (0, 1, [])),
            (NoText, book.number_of, "free"), (NoText, house.text, ["k3"]), (NoText, house.take, None),
            (NoText, house.pieces, "free", ASKS[0]),
            (Twice, Book, [("a", ""), ("a", "")]), (Twice, poured, [book, book]), (Twice, house.put, "k3", ""),
            (Twice, house_of, [SHELVES[0], SHELVES[0]]), (NoLine, read_shown, "a"), (NoAsk, read_ask, ""),
            (BadKept, risen, None), (BadKept, risen, []),
        ):
            self.check_refused(refusal, call, *handed)
            self.assertEqual(refusal.__bases__, (HallError,))
        self.check_house(house, PlainHouse(SHELVES))

    def test_what_is_refused_changes_nothing(self):
        house = house_of(SHELVES)
        desk = Desk(house)
        desk.answer("ask cat")
        ahead = all_told(house), house.shelves(), kept_lines(house)
        for call, *handed in (
            (house.put, "", ""), (house.put, "new", None), (house.put, "k3", "x"), (house.take, "new"),
            (house.take, []), (house.text, None), (house.ranked, ASKS[0], -1), (house.ranked, ASKS[0], 0, None),
            (house.pieces, "new", ASKS[0]), (house.pieces, "k3", ASKS[0], True),
            (house_of, SHELVES + [[("k3", "")]]), (risen, kept_lines(house)[:-1]),
        ):
            self.assertRaises(HallError, call, *handed)
            self.assertEqual((all_told(house), house.shelves(), kept_lines(house)), ahead)
        for line in (
            "put  x", "put new \\", "put k3 x", "take new", "show new", "ask (", "ask \t", "no", "keys ", "pour ",
            "more ",
        ):
            desk.answer(line)
            self.assertEqual((all_told(house), house.shelves(), kept_lines(house)), ahead)
        self.assertEqual(desk.answer("more"), ["no more"])

    def test_flat_and_meant_refuse_nothing(self):
        self.assertEqual((flat("\t" * 3000), meant("\t" * 3000)), ("\t" * 3000, "\t" * 3000))


if __name__ == "__main__":
    unittest.main()
