import inspect
import random
import unittest

from findhall.asks import Not, Row, Word
from findhall.errors import BadKey, BadText, NoText, Twice
from findhall.house import House, house_of
from handed import HouseCase, PlainHouse, Thing, no_keys, no_texts

TEXTS = ["", "a", "The cat, the DOG", "-.- \n", "b\\n [b]\nb", "x " * 40, "a" * 2000, "\n" * 2000]
SHELVES = [
    [("k3", "The cat"), ("k1", "")], [("z", "a b a")], [("k2", "the\nend"), ("a9", "-"), ("m", "cat cat"), ("b", "b")],
    [("abcdefghij12", "x")],
]


def chance_deed(chance, plain, keys):
    there = [key for key, text in plain.pairs()]
    free = [key for key in keys if key not in there]
    name = chance.choice(("put", "put", "put", "take", "pour") if chance.random() < 0.3 else ("put", "put", "take"))
    if name == "put" and free:
        return ("put", chance.choice(free), chance.choice(TEXTS))
    if name == "take" and there:
        return ("take", chance.choice(there))
    return ("pour",)


class DeedsCase(HouseCase):
    def do(self, house, plain, deed):
        name, *handed = deed
        if name == "take":
            wanted = dict(plain.pairs())[handed[0]]
            self.assertEqual(house.take(*handed), wanted)
        elif name == "put":
            self.assertIs(house.put(*handed), None)
        else:
            self.assertIs(house.pour(), None)
        getattr(plain, name)(*handed)

    def check_away(self, house, keys):
        for key in keys:
            self.assertIs(house.has(key), False)
            self.check_refused(NoText, house.text, key)
            self.check_refused(NoText, house.take, key)
            self.check_refused(NoText, house.pieces, key, Word("a"))

    def check_refusals(self, house, plain):
        """What is refused is refused by its name, and changes nothing."""
        for key in no_keys():
            self.check_refused(BadKey, house.put, key, "a")
            self.check_refused(BadKey, house.put, key, None)
            self.assertIs(house.has(key), False)
        for text in no_texts():
            self.check_refused(BadText, house.put, "free", text)
            for key, there in plain.pairs():
                self.check_refused(BadText, house.put, key, text)
        for key, text in plain.pairs():
            self.check_refused(Twice, house.put, key, text)
            self.check_refused(Twice, house.put, key, "other")
        self.check_away(house, no_keys() + ["free"])
        self.check_house(house, plain)


class DeedsTest(DeedsCase):
    def test_a_new_house(self):
        house = House()
        self.check_house(house, PlainHouse())
        self.check_list(house.all_keys(), [])
        self.check_list(house.books(), [])
        self.check_list(house.shelves(), [])
        self.assertEqual((house.many(), house.total()), (0, 0))
        self.check_refusals(house, PlainHouse())

    def test_the_books_as_texts_are_put(self):
        house, plain = House(), PlainHouse()
        wanted = [
            [1], [2], [2, 1], [4], [4, 1], [4, 2], [4, 2, 1], [8], [8, 1], [8, 2], [8, 2, 1], [8, 4], [8, 4, 1],
            [8, 4, 2], [8, 4, 2, 1], [16], [16, 1],
        ]
        for number, books in enumerate(wanted):
            self.do(house, plain, ("put", "k" + str(number), TEXTS[number % 8]))
            self.check_list(house.books(), books)
            self.check_house(house, plain)
        keys = [key for shelf in house.shelves() for key, text in shelf]
        self.assertEqual(keys, ["k" + str(number) for number in range(17)])

    def test_taking_out_pours_nothing(self):
        house, plain = House(), PlainHouse()
        for number in range(7):
            self.do(house, plain, ("put", "k" + str(number), "a b"))
        self.check_list(house.books(), [4, 2, 1])
        for key, books in (("k1", [3, 2, 1]), ("k3", [2, 2, 1]), ("k0", [1, 2, 1]), ("k4", [1, 1, 1])):
            self.do(house, plain, ("take", key))
            self.check_list(house.books(), books)
            self.check_house(house, plain)
        self.do(house, plain, ("put", "k1", "new"))
        self.check_list(house.books(), [4])
        self.check_list(house.shelves(), [[("k2", "a b"), ("k5", "a b"), ("k6", "a b"), ("k1", "new")]])

    def test_fewer_ahead_than_behind_stay(self):
        house = house_of([[("a", "x")], [("b", ""), ("c", "")]])
        plain = PlainHouse(house.shelves())
        for key, books in (("d", [1, 2, 1]), ("e", [5])):
            self.do(house, plain, ("put", key, "y"))
            self.check_list(house.books(), books)
            self.check_house(house, plain)

    def test_a_book_of_no_texts_goes(self):
        for key in ("k0", "k1", "k2"):
            house = house_of([[("k0", "a")], [("k1", "b")], [("k2", "")]])
            plain = PlainHouse(house.shelves())
            self.do(house, plain, ("take", key))
            self.check_list(house.books(), [1, 1])
            self.check_house(house, plain)
            for other in [one for one in ("k0", "k1", "k2") if one != key]:
                self.do(house, plain, ("take", other))
            self.check_list(house.books(), [])
            self.check_list(house.shelves(), [])
            self.check_house(house, plain)

    def test_a_text_that_went_out_is_put_again(self):
        house, plain = House(), PlainHouse()
        for number in range(6):
            self.do(house, plain, ("put", "k" + str(number), "a"))
        self.do(house, plain, ("take", "k2"))
        self.check_away(house, ["k2"])
        self.do(house, plain, ("put", "k2", "a b c"))
        self.assertEqual(house.text("k2"), "a b c")
        self.assertEqual(house.shelves()[-1], [("k2", "a b c")])
        self.check_house(house, plain)
        self.do(house, plain, ("take", "k2"))
        self.do(house, plain, ("put", "k2", "a"))
        self.check_refusals(house, plain)

    def test_pour_of_none_one_and_many_books(self):
        house, plain = House(), PlainHouse()
        self.do(house, plain, ("pour",))
        self.check_list(house.books(), [])
        self.check_house(house, plain)
        self.do(house, plain, ("put", "z", "a"))
        self.do(house, plain, ("pour",))
        self.check_list(house.books(), [1])
        for many, shelves in ((1, SHELVES[2:3]), (2, SHELVES[:2]), (4, SHELVES)):
            house, plain = house_of(shelves), PlainHouse(shelves)
            self.assertEqual(len(house.books()), many)
            for turn in range(2):
                self.do(house, plain, ("pour",))
                self.check_list(house.shelves(), [[pair for shelf in shelves for pair in shelf]])
                self.check_house(house, plain)
        self.do(house, plain, ("put", "new", "b"))
        self.check_list(house.books(), [8, 1])

    def test_thirty_deeds_by_chance(self):
        # The seed is fixed, so that each run does the same.
        chance = random.Random(41)
        shapes = {}
        for turn in range(40):
            house, plain = House(), PlainHouse()
            keys = ["k" + str(number) for number in range(chance.choice((3, 9, 40)))]
            for deed in range(30):
                self.do(house, plain, chance_deed(chance, plain, keys))
                self.check_house(house, plain)
                self.check_away(house, [key for key in keys if key not in dict(plain.pairs())][:3])
                shapes[tuple(house.books())] = True
            self.check_refusals(house, plain)
        self.assertGreater(len(shapes), 60)

    def test_refusals_change_nothing_at_any_time(self):
        chance = random.Random(42)
        house, plain = House(), PlainHouse()
        for turn in range(20):
            self.do(house, plain, chance_deed(chance, plain, ["k1", "k2", "k3", "k4", "k5"]))
            self.check_refusals(house, plain)

    def test_the_longest_keys_and_texts(self):
        house = House()
        house.put("abcdefghij12", "a" * 2000)
        house.put("0", "a " * 1000)
        house.put("book", "")
        self.check_list(house.all_keys(), ["0", "abcdefghij12", "book"])
        self.assertEqual((house.many(), house.total()), (3, 1001))
        self.check_house(house, PlainHouse([[("abcdefghij12", "a" * 2000), ("0", "a " * 1000)], [("book", "")]]))

    def test_two_houses_side_by_side(self):
        one, other = House(), House()
        plain_one, plain_other = PlainHouse(), PlainHouse()
        for number in range(5):
            self.do(one, plain_one, ("put", "k" + str(number), "a"))
            self.check_house(other, plain_other)
            self.do(other, plain_other, ("put", "k" + str(7 - number), "b b"))
            self.check_house(one, plain_one)
        self.do(one, plain_one, ("take", "k3"))
        self.do(other, plain_other, ("pour",))
        self.check_house(one, plain_one)
        self.check_house(other, plain_other)
        self.assertEqual(one.found(Word("b")), [])

    def test_has_and_text_of_anything(self):
        house = house_of(SHELVES)
        for thing in no_keys() + [["k3"], ("k3",), {"k3": 1}, ["k3", "z"], Thing(), "k", "k33", "K3", "k3 "]:
            self.check_away(house, [thing])
        self.check_house(house, PlainHouse(SHELVES))

    def test_the_interface(self):
        wanted = {
            "put": "(self, key, text)", "take": "(self, key)", "text": "(self, key)", "has": "(self, key)",
            "all_keys": "(self)", "many": "(self)", "total": "(self)", "books": "(self)", "shelves": "(self)",
            "pour": "(self)", "found": "(self, ask)", "ranked": "(self, ask, first=0, many=10)",
            "pieces": "(self, key, ask, around=3, most=3)",
        }
        for name, arguments in wanted.items():
            self.assertEqual(str(inspect.signature(getattr(House, name))), arguments)
        self.assertEqual(str(inspect.signature(House)), "()")
        self.assertEqual(str(inspect.signature(house_of)), "(shelves)")


class HouseOfTest(DeedsCase):
    def test_just_these_books(self):
        for shelves in ([], SHELVES[:1], SHELVES[1:2], SHELVES, SHELVES[::-1], [SHELVES[3]] + SHELVES[:3]):
            house = house_of(shelves)
            self.assertIs(type(house), House)
            self.check_list(house.books(), [len(shelf) for shelf in shelves])
            self.check_house(house, PlainHouse(shelves))

    def test_many_books_of_one_text(self):
        shelves = [[("k" + str(number), "a")] for number in range(20)]
        house, plain = house_of(shelves), PlainHouse(shelves)
        self.check_list(house.books(), [1] * 20)
        self.do(house, plain, ("put", "new", "b"))
        self.check_list(house.books(), [21])
        self.check_house(house, plain)

    def test_from_there_on_the_rule(self):
        chance = random.Random(43)
        for turn in range(20):
            shelves = chance.sample(SHELVES, chance.randrange(5))
            house, plain = house_of(shelves), PlainHouse(shelves)
            for deed in range(15):
                self.do(house, plain, chance_deed(chance, plain, ["k1", "k2", "n1", "n2", "n3", "n4", "n5"]))
                self.check_house(house, plain)

    def check_wrong(self, refusal, pair):
        """The wrong pair stands at the first, a middle and the last place of each book."""
        for shelf in range(len(SHELVES)):
            for place in {0, len(SHELVES[shelf]) // 2, len(SHELVES[shelf])}:
                shelves = [list(one) for one in SHELVES]
                shelves[shelf].insert(place, pair)
                handed = [list(one) for one in shelves]
                self.check_refused(refusal, house_of, handed)
                self.assertTrue(handed == shelves)

    def test_what_is_no_key_or_no_text(self):
        for key in no_keys():
            self.check_wrong(BadKey, (key, "a"))
            self.check_wrong(BadKey, (key, None))
        for text in no_texts():
            self.check_wrong(BadText, ("free", text))
            self.check_refused(BadText, house_of, SHELVES + [[("k3", text)]])

    def test_a_key_twice(self):
        for shelf in SHELVES:
            for key, text in shelf:
                self.check_wrong(Twice, (key, text))
                self.check_wrong(Twice, (key, "other"))

    def test_the_first_one_is_it(self):
        wrong = [(BadKey, ("A", None)), (BadText, ("k3", "\t")), (Twice, ("k3", "a"))]
        for first, one in wrong:
            for second, other in wrong:
                self.check_refused(first, house_of, SHELVES + [[one, other]])
                self.check_refused(first, house_of, SHELVES + [[one], [other]])
                self.check_refused(first, house_of, SHELVES[:1] + [[one, ("n", "")]] + SHELVES[1:] + [[other]])

    def test_the_lists_handed_in_are_changed_behind_the_call(self):
        shelves = [list(shelf) for shelf in SHELVES]
        house = house_of(shelves)
        self.assertEqual(shelves, SHELVES)
        shelves[0].append(("new", "a"))
        shelves[1].clear()
        shelves.pop()
        self.check_house(house, PlainHouse(SHELVES))
        house.take("k1")
        house.put("n", "b")
        self.assertEqual(shelves, [SHELVES[0] + [("new", "a")], [], SHELVES[2]])

    def test_two_houses_of_the_same_lists(self):
        shelves = [list(shelf) for shelf in SHELVES]
        one, other = house_of(shelves), house_of(shelves)
        one.take("z")
        one.pour()
        self.check_house(other, PlainHouse(SHELVES))


class OwnTest(DeedsCase):
    def test_told_lists_are_changed(self):
        house, plain = house_of(SHELVES), PlainHouse(SHELVES)
        for told in (
            house.all_keys(), house.books(), house.shelves(), house.shelves()[0], house.shelves()[2],
            house.found(Word("cat")), house.ranked(Word("cat")), house.pieces("k3", Word("cat")),
        ):
            told.append("k1")
            told.reverse()
            self.check_house(house, plain)
            told.clear()
            self.check_house(house, plain)
            self.check_asked(house, plain, ("word", "cat"))

    def test_what_is_told_stays_as_it_was(self):
        house = house_of(SHELVES)
        told = [
            house.all_keys(), house.books(), house.shelves(), house.found(Word("cat")), house.ranked(Word("cat")),
            house.pieces("k3", Row(["the", "cat"])), house.found(Not(Word("cat"))),
        ]
        wanted = [
            ["a9", "abcdefghij12", "b", "k1", "k2", "k3", "m", "z"], [2, 1, 4, 1], [list(shelf) for shelf in SHELVES],
            ["k3", "m"], [("m", (132, 49)), ("k3", (33, 19))], ["[The cat]"],
            ["a9", "abcdefghij12", "b", "k1", "k2", "z"],
        ]
        for deed in (lambda: house.take("k3"), house.pour, lambda: house.put("n", "cat"), lambda: house.take("m")):
            deed()
            self.assertEqual(told, wanted)


if __name__ == "__main__":
    unittest.main()
