import itertools
import random
import unittest

from findhall.asks import Both, Either, Near, Not, Row, Start, Word
from handed import built, chance_told, looked_holds, looked_spans

A, B = ("word", "a"), ("word", "b")
LEAVES = [
    A, ("word", "ab"), ("word", "z"), ("start", "a"), ("start", "ab"), ("start", "z"), ("row", ("a", "b")),
    ("row", ("a", "a")), ("row", ("a", "a", "a")), ("row", ("a", "b", "a")), ("row", ("b", "ab")),
]


class SpansCase(unittest.TestCase):
    def check_spans(self, ask, words, wanted):
        handed = list(words)
        told = ask.spans(handed)
        self.assertIs(type(told), list)
        self.assertEqual(told, wanted)
        for span in told:
            self.assertIs(type(span), tuple)
            self.assertEqual([type(place) for place in span], [int, int])
        self.assertEqual(handed, list(words))

    def check_holds(self, ask, words, wanted):
        handed = list(words)
        self.assertIs(ask.holds(handed), wanted)
        self.assertEqual(handed, list(words))

    def check_looked(self, told, words):
        ask = built(told)
        self.check_spans(ask, words, looked_spans(told, words))
        self.check_holds(ask, words, looked_holds(told, words))


class LeavesTest(SpansCase):
    def test_a_word(self):
        for line, wanted in (
            ("", []), ("a", [(0, 0)]), ("b", []), ("ab", []), ("a a", [(0, 0), (1, 1)]),
            ("b a ab a b", [(1, 1), (3, 3)]),
        ):
            self.check_spans(Word("a"), line.split(), wanted)
            self.check_holds(Word("a"), line.split(), wanted != [])

    def test_a_start(self):
        for line, wanted in (
            ("", []), ("ab", [(0, 0)]), ("a", []), ("bab", []), ("abc", [(0, 0)]), ("b ab a abab ba ab9", [
                (1, 1), (3, 3), (5, 5)]),
        ):
            self.check_spans(Start("ab"), line.split(), wanted)
            self.check_holds(Start("ab"), line.split(), wanted != [])

    def test_a_row(self):
        for words, line, wanted in (
            ("a b", "", []), ("a b", "a", []), ("a b", "a b", [(0, 1)]), ("a b", "b a", []), ("a b", "a x b", []),
            ("a b", "a b a b", [(0, 1), (2, 3)]), ("a b", "b a b a", [(1, 2)]), ("a b", "ab", []),
            ("a b", "a bc", []), ("a b c d e f g h", "x a b c d e f g h x", [(1, 8)]),
            ("a b c d e f g h", "a b c d e f g", []),
        ):
            self.check_spans(Row(words.split()), line.split(), wanted)
            self.check_spans(Row(tuple(words.split())), line.split(), wanted)
            self.check_holds(Row(words.split()), line.split(), wanted != [])

    def test_a_row_that_overlaps_itself(self):
        self.check_spans(Row(["a", "a"]), ["a"] * 4, [(0, 1), (1, 2), (2, 3)])
        self.check_spans(Row(["a", "b", "a"]), "a b a b a".split(), [(0, 2), (2, 4)])
        self.check_spans(Row(["a"] * 8), ["a"] * 10, [(0, 7), (1, 8), (2, 9)])

    def test_the_words_of_joining(self):
        words = "to be or not to be and".split()
        self.check_spans(Word("or"), words, [(2, 2)])
        self.check_spans(Row(["or", "not"]), words, [(2, 3)])
        self.check_spans(Start("an"), words, [(6, 6)])


class NearTest(SpansCase):
    def check_near(self, one, other, far, line, wanted):
        for ask in (Near(one, other, far), Near(other, one, far)):
            self.check_spans(ask, line.split(), wanted)
            self.check_holds(ask, line.split(), wanted != [])

    def test_from_either_side(self):
        a, b = Word("a"), Word("b")
        self.check_near(a, b, 0, "a b", [(0, 1)])
        self.check_near(a, b, 0, "b a", [(0, 1)])
        self.check_near(a, b, 0, "a x b", [])
        self.check_near(a, b, 1, "a x b", [(0, 2)])
        self.check_near(a, b, 1, "b x a", [(0, 2)])
        self.check_near(a, b, 1, "b x x a", [])
        self.check_near(a, b, 0, "a b a", [(0, 1), (1, 2)])
        self.check_near(a, b, 1, "a", [])
        self.check_near(a, b, 1, "", [])

    def test_how_far(self):
        a, b = Word("a"), Word("b")
        for far in (0, 1, 2, 19, 20, 21):
            for between in (far - 1, far, far + 1, far + 2):
                if between >= 0:
                    wanted = [(1, between + 2)] if between <= far else []
                    self.check_near(a, b, far, "y a " + "x " * between + "b y", wanted)
                    self.check_near(a, b, far, "y b " + "x " * between + "a y", wanted)

    def test_of_rows(self):
        row, other = Row(["a", "b"]), Row(["c", "d", "e"])
        self.check_near(row, other, 0, "a b c d e", [(0, 4)])
        self.check_near(row, other, 0, "c d e a b", [(0, 4)])
        self.check_near(row, other, 1, "c d e x a b x c d e", [(0, 5), (4, 9)])
        self.check_near(row, other, 0, "c d e x a b x c d e", [])
        self.check_near(row, Word("c"), 2, "a b x x c", [(0, 4)])
        self.check_near(row, Word("c"), 1, "a b x x c", [])

    def test_spans_with_a_place_in_common_are_not_near(self):
        self.check_near(Word("a"), Word("a"), 20, "a", [])
        self.check_near(Word("a"), Start("a"), 20, "a", [])
        self.check_near(Word("a"), Row(["a", "b"]), 20, "a b", [])
        self.check_near(Word("b"), Row(["a", "b"]), 20, "a b", [])
        self.check_near(Word("b"), Row(["a", "b", "c"]), 20, "a b c", [])
        self.check_near(Row(["a", "b"]), Row(["b", "a"]), 20, "a b a", [])
        self.check_near(Row(["a", "a"]), Row(["a", "a"]), 20, "a a a", [])
        self.check_near(Row(["a", "a"]), Row(["a", "a"]), 0, "a a a a", [(0, 3)])
        self.check_near(Row(["a", "b"]), Row(["b", "a"]), 0, "a b a b", [])
        self.check_near(Row(["a", "b"]), Row(["b", "a"]), 0, "a b b a", [(0, 3)])

    def test_each_once_and_rising(self):
        self.check_near(Word("a"), Word("a"), 1, "a a a", [(0, 1), (0, 2), (1, 2)])
        self.check_near(Word("a"), Start("a"), 0, "a a", [(0, 1)])
        self.check_near(Start("a"), Start("a"), 2, "a ab x ac", [(0, 1), (0, 3), (1, 3)])

    def test_a_long_list_of_one_word(self):
        words = ["a"] * 1000
        wanted = [(begin, end) for begin in range(1000) for end in range(begin + 1, min(begin + 22, 1000))]
        self.check_spans(Near(Word("a"), Word("a"), 20), words, wanted)
        self.check_spans(Near(Word("a"), Row(["a", "a"]), 20), words, [
            (begin, end) for begin in range(1000) for end in range(begin + 2, min(begin + 23, 1000))])


class JoinedTest(SpansCase):
    def test_both(self):
        ask = Both(Word("a"), Word("b"))
        for line, wanted, held in (
            ("", [], False), ("a", [(0, 0)], False), ("b", [(0, 0)], False), ("x", [], False),
            ("b a a", [(0, 0), (1, 1), (2, 2)], True),
        ):
            self.check_spans(ask, line.split(), wanted)
            self.check_holds(ask, line.split(), held)

    def test_either(self):
        ask = Either(Word("a"), Row(["b", "c"]))
        for line, wanted, held in (
            ("", [], False), ("a", [(0, 0)], True), ("b", [], False), ("b c", [(0, 1)], True),
            ("b c a", [(0, 1), (2, 2)], True), ("a b c", [(0, 0), (1, 2)], True),
        ):
            self.check_spans(ask, line.split(), wanted)
            self.check_holds(ask, line.split(), held)

    def test_not(self):
        for line, held in (("", True), ("a", False), ("b", True), ("b a", False)):
            self.check_spans(Not(Word("a")), line.split(), [])
            self.check_holds(Not(Word("a")), line.split(), held)
            self.check_spans(Not(Not(Word("a"))), line.split(), [])
            self.check_holds(Not(Not(Word("a"))), line.split(), not held)

    def test_each_once(self):
        words = "a b a".split()
        for made in (Both, Either):
            self.check_spans(made(Word("a"), Word("a")), words, [(0, 0), (2, 2)])
            self.check_spans(made(Word("a"), Start("a")), words, [(0, 0), (2, 2)])
            self.check_spans(made(Row(["a", "b"]), Near(Word("a"), Word("b"), 0)), words, [(0, 1), (1, 2)])

    def test_rising_from_both_sides(self):
        words = "a b a b".split()
        for made in (Both, Either):
            self.check_spans(made(Row(["b", "a"]), Word("a")), words, [(0, 0), (1, 2), (2, 2)])
            self.check_spans(made(Word("b"), Row(["a", "b"])), words, [(0, 1), (1, 1), (2, 3), (3, 3)])
            self.check_spans(made(Row(["a", "b"]), Word("a")), words, [(0, 0), (0, 1), (2, 2), (2, 3)])

    def test_a_side_that_is_denied_has_none(self):
        words = "a b".split()
        for made in (Both, Either):
            self.check_spans(made(Not(Word("a")), Word("b")), words, [(1, 1)])
            self.check_spans(made(Word("a"), Not(Word("b"))), words, [(0, 0)])
            self.check_spans(made(Not(Word("a")), Not(Word("b"))), words, [])
        self.check_holds(Both(Word("a"), Not(Word("b"))), words, False)
        self.check_holds(Either(Word("a"), Not(Word("b"))), words, True)


class LookedTest(SpansCase):
    def test_leaves_and_nears_of_all_short_lists(self):
        nears = [("near", one, other, far) for one in LEAVES for other in LEAVES for far in (0, 1)]
        for length in range(5):
            for words in itertools.product(("a", "b", "ab"), repeat=length):
                for told in LEAVES:
                    self.check_looked(told, list(words))
                if length in (0, 4):
                    for told in nears[::3]:
                        self.check_looked(told, list(words))

    def test_joined_ones_of_all_short_lists(self):
        parts = [A, ("not", A), ("row", ("a", "b")), ("near", A, B, 0), ("both", A, B), ("either", A, B)]
        asked = [(name, one, other) for name in ("both", "either") for one in parts for other in parts]
        asked += [("not", one) for one in asked]
        for length in range(4):
            for words in itertools.product(("a", "b", "c"), repeat=length):
                for told in asked:
                    self.check_looked(told, list(words))

    def test_many_chances(self):
        # The seed is fixed, so that each run asks the same.
        chance = random.Random(4)
        held = {True: 0, False: 0}
        for turn in range(600):
            told = chance_told(chance, ("a", "b", "ab", "abc"), chance.randrange(1, 6))
            words = [chance.choice(("a", "b", "ab", "abc", "c")) for place in range(chance.randrange(25))]
            self.check_looked(told, words)
            held[looked_holds(told, words)] += 1
        self.assertGreater(min(held.values()), 100)


class OwnTest(SpansCase):
    def some_asks(self):
        a, b, start, row = Word("a"), Word("b"), Start("a"), Row(["a", "b"])
        near = Near(a, row, 3)
        return [a, start, row, near, Both(a, b), Either(near, start), Not(b), Both(row, Not(Either(a, b)))]

    def test_the_words_changed_behind_the_call(self):
        for ask in self.some_asks():
            words = "a b x a b".split()
            first, held = ask.spans(words), ask.holds(words)
            kept = list(first)
            words[:] = ["x", "a"]
            self.assertEqual(first, kept)
            self.assertEqual(ask.spans(words), ask.spans(["x", "a"]))
            self.assertIs(ask.holds(words), ask.holds(["x", "a"]))
            words.clear()
            self.assertEqual(ask.spans(words), [])
            self.assertEqual(ask.spans("a b x a b".split()), kept)
            self.assertIs(ask.holds("a b x a b".split()), held)
            self.assertEqual(first, kept)

    def test_asked_as_the_words_are_then(self):
        words = ["a"]
        ask = Both(Word("a"), Word("b"))
        self.check_holds(ask, words, False)
        words.append("b")
        self.check_holds(ask, words, True)
        self.check_spans(ask, words, [(0, 0), (1, 1)])
        words[0] = "c"
        self.check_spans(ask, words, [(1, 1)])

    def test_told_spans_are_changed(self):
        for ask in self.some_asks():
            words = "a b x a b".split()
            told = ask.spans(words)
            kept = list(told)
            told.append((9, 9))
            told.reverse()
            self.check_spans(ask, words, kept)
            told.clear()
            self.check_spans(ask, words, kept)


if __name__ == "__main__":
    unittest.main()
