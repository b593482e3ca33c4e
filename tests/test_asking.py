import random
import unittest

from findhall.asks import Both, Either, Near, Not, Row, Start, Word
from findhall.errors import BadNumber, NoText
from findhall.house import House, house_of
from findhall.reading import read_ask
from handed import (
    GREAT_NUMBER, HouseCase, PlainHouse, Thing, balanced, built, chance_told, no_keys, no_whole_numbers,
)

WRONG_NUMBERS = no_whole_numbers() + [-1, -2, -GREAT_NUMBER]
WORDS = ("a", "b", "ab", "abc", "the", "cat")
PAIRS = [
    ("k3", "A b, the CAT!"), ("k1", ""), ("z", "a a a a a"), ("m", "-.- ~ \n"), ("a", "b"), ("b", "B"),
    ("t9", "The cat\nand the [dog]: b a"), ("abcdefghij12", "ab abc x"), ("k2", "the cat - the cat \\ the cats"),
    ("x1", "a b c d e f g h i j k l m n a o p q r s t u v a b w x y z [a]"), ("x2", "b ab a"), ("x3", "ab b"),
]
A, B, START, ROW = ("word", "a"), ("word", "b"), ("start", "a"), ("row", ("the", "cat"))
NEAR = ("near", A, B, 1)
QUESTIONS = [
    A, B, ("word", "zzz"), START, ("start", "zz"), ROW, ("row", ("a",) * 3), NEAR, ("near", ROW, START, 20),
    ("both", A, B), ("both", A, ("word", "zzz")), ("either", A, B), ("either", START, ROW), ("not", A), ("not", ROW),
    ("not", ("not", A)), ("both", ("not", A), B), ("either", ("not", A), NEAR), ("both", A, A),
    ("either", ("both", A, B), A),
    ("both", ("not", ("either", A, B)), ("not", ROW)), ("either", ("both", NEAR, ("not", ROW)), ("both", START, B)),
    ("not", ("both", ("either", A, ("not", B)), ("either", ROW, NEAR))),
]


def shelves_of(pairs, *sizes):
    shelves, begin = [], 0
    for size in sizes:
        shelves.append(pairs[begin:begin + size])
        begin += size
    return shelves + [pairs[begin:]] * (begin < len(pairs))


class FoundTest(HouseCase):
    def test_a_house_without_texts(self):
        for told in QUESTIONS:
            self.check_asked(House(), PlainHouse(), told)
            self.check_list(House().found(built(told)), [])
            self.check_list(House().ranked(built(told)), [])

    def test_one_text(self):
        for pair in PAIRS:
            house = House()
            house.put(*pair)
            for told in QUESTIONS:
                self.check_asked(house, PlainHouse([[pair]]), told)

    def test_questions_of_each_form(self):
        for sizes in ((), (1,), (5, 1, 3), (1,) * 11):
            shelves = shelves_of(PAIRS, *sizes)
            house, plain = house_of(shelves), PlainHouse(shelves)
            for told in QUESTIONS:
                self.check_asked(house, plain, told)

    def test_four_within_one_another(self):
        # The seed is fixed, so that each run asks the same.
        chance = random.Random(51)
        pairs = [pair for pair in PAIRS if pair[0] != "x1"]
        shelves = shelves_of(pairs, 3, 4)
        house, plain = house_of(shelves), PlainHouse(shelves)
        many = {}
        for turn in range(150):
            told = chance_told(chance, WORDS, 4)
            self.check_asked(house, plain, told)
            found = len(house.found(built(told)))
            many[found] = many.get(found, 0) + 1
        self.assertGreater(len(many), 6)

    def test_behind_any_deeds(self):
        chance = random.Random(52)
        for turn in range(12):
            house, plain = House(), PlainHouse()
            for deed in range(30):
                there = dict(plain.pairs())
                key = "k" + str(chance.randrange(9))
                if key in there:
                    self.assertEqual(house.take(key), there[key])
                    plain.take(key)
                else:
                    text = " ".join(chance.choice(WORDS) for word in range(chance.choice((0, 1, 2, 5, 9))))
                    house.put(key, text)
                    plain.put(key, text)
                if chance.random() < 0.1:
                    house.pour()
                    plain.pour()
                self.check_asked(house, plain, chance_told(chance, WORDS, 3))
            self.check_house(house, plain)

    def test_by_hand(self):
        house = house_of(shelves_of(PAIRS, 5, 1, 3))
        for line, wanted in (
            ("a", ["k3", "t9", "x1", "x2", "z"]), ("dog or ab", ["abcdefghij12", "t9", "x2", "x3"]),
            ("the and not dog", ["k2", "k3"]), ('"the cat"', ["k2", "k3", "t9"]), ("cat*", ["k2", "k3", "t9"]),
            ("cats", ["k2"]), ("a ~0 b", ["k3", "t9", "x1"]), ("b ~1 a", ["k3", "t9", "x1", "x2"]),
            ("not (a* or b or the)", ["k1", "m"]), ("zzz", []), ("not zzz", sorted(key for key, text in PAIRS)),
        ):
            self.check_list(house.found(read_ask(line)), wanted)
        self.assertEqual(house.take("t9"), "The cat\nand the [dog]: b a")
        for line, wanted in (
            ("dog or ab", ["abcdefghij12", "x2", "x3"]), ("dog", []), ("do*", []), ('"the cat"', ["k2", "k3"]),
            ("not dog", sorted(key for key, text in PAIRS if key != "t9")),
        ):
            self.check_list(house.found(read_ask(line)), wanted)

    def test_the_greatest_questions(self):
        house, plain = house_of(shelves_of(PAIRS, 4)), PlainHouse(shelves_of(PAIRS, 4))
        for told in (balanced(20), balanced(20, "either"), ("not", ("not", balanced(16)))):
            self.check_asked(house, plain, told)

    def test_what_lies_beyond_the_bounds_is_not_refused(self):
        house = house_of([PAIRS[:3], PAIRS[3:]])
        for ask, wanted in (
            (Word("a" * 2001), []), (Not(Start("a" * 2001)), sorted(key for key, text in PAIRS)), (Row(["b"]), [
                "a", "b", "k3", "t9", "x1", "x2", "x3"]), (Near(Word("a"), Word("z"), 30), ["x1"]),
        ):
            self.check_list(house.found(ask), wanted)
            self.assertEqual(sorted(key for key, worth in house.ranked(ask, 0, 20)), wanted)


class RankedTest(HouseCase):
    def test_worths_by_hand(self):
        house = House()
        # Four texts, eight words.
        for key, text in (("d", "cat cat cat dog"), ("c", "cat"), ("b", "the cat, dog"), ("a", "")):
            house.put(key, text)
        # Cat stands in three of four, so it is 5/4 rare, dog in two, so 5/3; the share of one in a text of three words
        # is 2 * 8 over 2 * 8 + 3 * 4, of one alone 16 over 16 + 4, of three in four words 48 over 32 + 16.
        self.check_list(house.ranked(Word("cat")), [("d", (5, 4)), ("c", (1, 1)), ("b", (5, 7))])
        self.check_list(house.ranked(Word("dog")), [("b", (20, 21)), ("d", (5, 6))])
        self.check_list(house.ranked(Either(Word("dog"), Word("cat"))), [
            ("d", (25, 12)), ("b", (5, 3)), ("c", (1, 1))])
        self.check_list(house.ranked(Both(Word("dog"), Word("cat"))), [("d", (25, 12)), ("b", (5, 3))])
        self.check_list(house.ranked(Both(Word("cat"), Not(Word("dog")))), [("c", (1, 1))])
        self.check_list(house.ranked(Not(Word("dog"))), [("a", (0, 1)), ("c", (0, 1))])
        self.check_list(house.ranked(Both(Word("cat"), Word("cat"))), [("d", (5, 2)), ("c", (2, 1)), ("b", (10, 7))])
        self.check_list(house.ranked(Row(["cat", "cat"])), [("d", (2, 1))])
        self.check_list(house.ranked(Word("zzz")), [])
        house.take("d")
        # Three texts, four words: one of three words 8 over 8 + 9, one alone 8 over 8 + 3.
        self.check_list(house.ranked(Word("cat")), [("c", (32, 33)), ("b", (32, 51))])
        self.check_list(house.ranked(Word("dog")), [("b", (16, 17))])

    def test_texts_without_words_alone(self):
        house = house_of([[("b", "")], [("a", "-"), ("c", "\n")]])
        self.check_list(house.ranked(Not(Word("a"))), [("a", (0, 1)), ("b", (0, 1)), ("c", (0, 1))])
        self.check_list(house.ranked(Either(Word("a"), Not(Word("a"))), 1), [("b", (0, 1)), ("c", (0, 1))])
        self.check_list(house.ranked(Word("a")), [])

    def test_like_worths_by_rising_keys(self):
        keys = ["m", "b", "a1", "z", "10", "9", "a", "b2", "ab", "c", "d", "e"]
        house = house_of([[(key, "a b")] for key in keys])
        told = house.ranked(Word("a"), 0, 20)
        self.assertEqual([key for key, worth in told], sorted(keys))
        self.assertEqual(len({worth for key, worth in told}), 1)
        house.put("aa", "a a b c")
        plain = PlainHouse(house.shelves())
        self.check_asked(house, plain, A)
        self.assertEqual(house.ranked(Word("a"))[0][0], "aa")

    def test_ten_where_many_is_left_out(self):
        house = house_of([[("k" + str(number), "a " * (number + 1)) for number in range(25)]])
        whole = PlainHouse(house.shelves()).ranked(A)
        self.assertEqual(len(whole), 25)
        ask = Word("a")
        self.check_list(house.ranked(ask), whole[:10])
        self.check_list(house.ranked(ask, 5), whole[5:15])
        self.check_list(house.ranked(ask, 20), whole[20:])
        self.check_list(house.ranked(ask, many=3), whole[:3])
        self.check_list(house.ranked(ask, first=24), whole[24:])
        self.check_list(house.ranked(ask=ask, first=2, many=2), whole[2:4])
        numbers = [0, 1, 2, 9, 10, 11, 24, 25, 26, 100, GREAT_NUMBER]
        for first in numbers:
            for many in numbers:
                self.check_list(house.ranked(ask, first, many), whole[first:][:many])

    def test_numbers_that_are_none(self):
        for house in (House(), house_of([PAIRS[:4], PAIRS[4:]])):
            shelves = house.shelves()
            for ask in (Word("a"), Word("zzz"), Not(Word("a"))):
                for thing in WRONG_NUMBERS:
                    self.check_refused(BadNumber, house.ranked, ask, thing)
                    self.check_refused(BadNumber, house.ranked, ask, 0, thing)
                    self.check_refused(BadNumber, house.ranked, ask, GREAT_NUMBER, thing)
                    self.check_refused(BadNumber, house.ranked, ask, thing, 0)
                    self.check_refused(BadNumber, house.ranked, ask, thing, Thing())
            self.check_house(house, PlainHouse(shelves))

    def test_a_question_is_asked_and_stays(self):
        words = ["the", "cat"]
        ask = Either(Row(words), Near(Word("a"), Start("b"), 2))
        house = house_of([PAIRS])
        first = house.ranked(ask)
        words.reverse()
        self.check_list(house.ranked(ask), first)
        self.assertEqual(ask.told(), ("either", ROW, ("near", A, ("start", "b"), 2)))


class SameTest(HouseCase):
    def all_told(self, house):
        asks = [built(told) for told in QUESTIONS]
        told = [(house.found(ask), house.ranked(ask), house.ranked(ask, 3, 100)) for ask in asks]
        pieces = [house.pieces(key, ask) for key in house.all_keys() for ask in asks[::4]]
        return told, pieces, house.all_keys(), house.many(), house.total()

    def test_put_in_another_order_poured_or_not_and_cut_otherwise(self):
        chance = random.Random(53)
        wanted = self.all_told(house_of([PAIRS]))
        for turn in range(12):
            pairs = chance.sample(PAIRS, len(PAIRS))
            house = House()
            for key, text in pairs:
                house.put(key, text)
                if chance.random() < 0.2:
                    house.pour()
            self.assertEqual(self.all_told(house), wanted)
            house.pour()
            self.assertEqual(self.all_told(house), wanted)
            cut = house_of(shelves_of(pairs, *[chance.randrange(1, 4) for book in range(3)]))
            self.assertEqual(self.all_told(cut), wanted)

    def test_what_went_out_leaves_nothing(self):
        wanted = self.all_told(house_of([PAIRS]))
        house = House()
        for key, text in PAIRS:
            house.put("x" + key if len(key) < 12 else "other", text + " a b the cat zzz")
            house.put(key, text)
        for key in house.all_keys():
            if key not in dict(PAIRS):
                house.take(key)
        self.assertEqual(self.all_told(house), wanted)
        house.pour()
        self.assertEqual(self.all_told(house), wanted)

    def test_asking_changes_nothing(self):
        house = house_of(shelves_of(PAIRS, 2, 5))
        first = self.all_told(house)
        shelves = house.shelves()
        self.assertEqual(self.all_told(house), first)
        self.check_house(house, PlainHouse(shelves))


class PiecesTest(HouseCase):
    def test_by_hand(self):
        house = House()
        house.put("k", "one two, three [four] five six seven \\eight\\ nine\nten one")
        for line, others, wanted in (
            ("one", (), ["[one] two, three \\[four ...", "... eight\\\\ nine\\nten [one]"]),
            ("one", (0,), ["[one] ...", "... [one]"]), ("one", (1, 1), ["[one] two ..."]), ("one", (1, 0), []),
            ("four", (0, 5), ["... [four] ..."]), ("zzz", (), []), ("not one", (), []),
            ("one and zzz", (1,), ["[one] two ...", "... ten [one]"]),
            ('"six seven" or two', (1,), ["one [two], three ...", "... five [six seven] \\\\eight ..."]),
            ("four ~1 six", (1,), ["... three \\[[four\\] five six] seven ..."]),
            ("o* t*", (100, 100), ["[one two, three] \\[four\\] five six seven \\\\eight\\\\ nine\\n[ten one]"]),
        ):
            self.check_list(house.pieces("k", read_ask(line), *others), wanted)

    def test_against_a_look_at_each_text(self):
        shelves = shelves_of(PAIRS, 1, 4)
        house, plain = house_of(shelves), PlainHouse(shelves)
        many = {}
        for told in QUESTIONS:
            for key, text in PAIRS:
                for around, most in ((3, 3), (0, 3), (1, 2), (0, 100), (2, 0), (GREAT_NUMBER, 1), (0, GREAT_NUMBER)):
                    pieces = house.pieces(key, built(told), around, most)
                    self.check_list(pieces, plain.pieces(key, told, around, most))
                    many[len(pieces)] = True
                self.check_list(house.pieces(key, built(told), 1), plain.pieces(key, told, 1, 3))
        self.assertGreater(len(many), 3)

    def test_what_is_left_out(self):
        house = house_of([PAIRS])
        ask = Word("a")
        wanted = ["[a] b c d ...", "... l m n [a] o p q ...", "... t u v [a] b w x y z \\[[a]"]
        self.check_list(house.pieces("x1", ask), wanted)
        self.check_list(house.pieces("x1", ask, most=1), wanted[:1])
        self.check_list(house.pieces("x1", ask, around=0), ["[a] ...", "... [a] ...", "... [a] ..."])
        told = house.pieces(key="x1", ask=ask, around=0, most=9)
        self.check_list(told, ["[a] ..."] + ["... [a] ..."] * 2 + ["... [a]"])

    def test_numbers_that_are_none(self):
        house = house_of([PAIRS])
        for key in ("k3", "k1", "free", "", None, ["k3"], Thing()):
            for thing in WRONG_NUMBERS:
                self.check_refused(BadNumber, house.pieces, key, Word("a"), thing)
                self.check_refused(BadNumber, house.pieces, key, Word("a"), 3, thing)
                self.check_refused(BadNumber, house.pieces, key, Word("a"), thing, 3)
                self.check_refused(BadNumber, house.pieces, key, Word("a"), thing, Thing())
                self.check_refused(BadNumber, House().pieces, key, Word("a"), 0, thing)
        self.check_house(house, PlainHouse([PAIRS]))

    def test_keys_that_no_text_has(self):
        house = house_of([PAIRS])
        house.take("k3")
        for key in no_keys() + ["k3", "free"]:
            self.check_refused(NoText, house.pieces, key, Word("a"))
            self.check_refused(NoText, house.pieces, key, Word("a"), 0, 0)
            self.check_refused(NoText, House().pieces, key, Word("zzz"), GREAT_NUMBER, GREAT_NUMBER)


if __name__ == "__main__":
    unittest.main()
