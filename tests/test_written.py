import itertools
import random
import re
import unittest

from findhall.asks import Both, Either, Near, Not, Row, Start, Word, ask_of
from findhall.errors import NoAsk
from findhall.reading import read_ask
from handed import balanced, built, chance_told, deep_of, in_nots, many_of

A, B, C, D = ("word", "a"), ("word", "b"), ("word", "c"), ("word", "d")
NEAR = ("near", A, ("row", ("a", "b")), 3)
BY_HAND = [
    (A, "a"), (("word", "9x"), "9x"), (("word", "and"), '"and"'), (("word", "or"), '"or"'), (("word", "not"), '"not"'),
    (("word", "android"), "android"), (("start", "a"), "a*"), (("start", "and"), "and*"), (("start", "or"), "or*"),
    (("start", "not"), "not*"), (("row", ("a", "b")), '"a b"'), (("row", ("or", "not")), '"or not"'),
    (("row", ("and", "and")), '"and and"'), (("row", tuple("abcdefgh")), '"a b c d e f g h"'),
    (("near", A, B, 0), "a ~0 b"), (NEAR, 'a ~3 "a b"'),
    (("near", ("start", "a"), ("word", "and"), 20), 'a* ~20 "and"'),
    (("both", A, B), "a and b"), (("either", A, B), "a or b"), (("not", A), "not a"),
    (("both", ("word", "and"), ("word", "or")), '"and" and "or"'),
    (("either", ("word", "or"), ("start", "or")), '"or" or or*'),
    (("both", ("both", A, B), C), "a and b and c"), (("both", A, ("both", B, C)), "a and (b and c)"),
    (("either", ("either", A, B), C), "a or b or c"), (("either", A, ("either", B, C)), "a or (b or c)"),
    (("both", ("either", A, B), C), "(a or b) and c"), (("both", A, ("either", B, C)), "a and (b or c)"),
    (("either", ("both", A, B), C), "a and b or c"), (("either", A, ("both", B, C)), "a or b and c"),
    (("both", ("not", A), B), "not a and b"), (("both", A, ("not", B)), "a and not b"),
    (("either", ("not", A), B), "not a or b"), (("either", A, ("not", B)), "a or not b"),
    (("not", ("both", A, B)), "not (a and b)"), (("not", ("either", A, B)), "not (a or b)"),
    (("not", ("not", A)), "not not a"), (("not", ("near", A, B, 1)), "not a ~1 b"),
    (("not", ("word", "not")), 'not "not"'), (("not", ("start", "a")), "not a*"),
    (("not", ("row", ("a", "b"))), 'not "a b"'),
    (("both", ("near", A, B, 1), ("near", C, D, 2)), "a ~1 b and c ~2 d"),
    (("either", ("near", A, B, 1), C), "a ~1 b or c"),
    (("both", ("either", A, B), ("either", C, D)), "(a or b) and (c or d)"),
    (("either", ("both", A, B), ("both", C, D)), "a and b or c and d"),
    (("both", ("both", A, B), ("both", C, D)), "a and b and (c and d)"),
    (("either", ("either", A, B), ("either", C, D)), "a or b or (c or d)"),
    (("both", ("both", ("either", A, B), C), D), "(a or b) and c and d"),
    (("both", A, ("both", B, ("both", C, D))), "a and (b and (c and d))"),
    (("not", ("both", ("not", ("either", A, B)), C)), "not (not (a or b) and c)"),
    (("both", ("either", A, ("either", B, C)), D), "(a or (b or c)) and d"),
]


def without_brackets(line):
    """All lines that come of it where one pair of its brackets is left out."""
    waiting, pairs = [], []
    for place, sign in enumerate(line):
        if sign == "(":
            waiting.append(place)
        elif sign == ")":
            pairs.append((waiting.pop(), place))
    return [line[:begin] + line[begin + 1:end] + line[end + 1:] for begin, end in pairs]


def read_or_none(line):
    try:
        return read_ask(line).told()
    except NoAsk:
        return None


def some_told():
    parts = [A, ("word", "not"), ("start", "or"), ("row", ("and", "b")), NEAR]
    ones = parts + [("not", one) for one in parts]
    ones += [(name, one, other) for name in ("both", "either") for one in (A, ("not", B)) for other in parts]
    yield from ones
    for one, other in itertools.product(ones, repeat=2):
        yield ("both", one, other)
        yield ("either", one, other)
        yield ("not", ("both", one, other))
        yield ("not", ("either", other, one))
    # The seed is fixed, so that each run writes the same questions.
    chance = random.Random(12)
    for turn in range(1500):
        told = chance_told(chance, ("a", "b", "and", "or", "not", "x9"), chance.randrange(1, 9))
        if many_of(told) <= 40:
            yield told


class WrittenTest(unittest.TestCase):
    def check_written(self, told, line=None):
        written = built(told).written()
        self.assertIs(type(written), str)
        if line is not None:
            self.assertEqual(written, line)
        self.assertEqual(read_ask(written).told(), told)
        self.assertEqual(ask_of(told).written(), written)
        self.assertEqual(read_ask(written).written(), written)
        for other in without_brackets(written):
            self.assertNotEqual(read_or_none(other), told, written)
        self.check_blanks(written)

    def check_blanks(self, written):
        plain = re.sub('"[a-z0-9 ]+"', "w", written)
        self.assertNotIn('"', plain)
        self.assertNotRegex(plain, r"  |^ | $|\( | \)|[^ (]\(|\)[^ )]")
        for piece in plain.replace("(", "( ").replace(")", " )").split(" "):
            self.assertRegex(piece, r"^([()]|~[0-9]+|[a-z0-9]+\*?)$")
        # And is always told: no two questions stand side by side.
        self.assertNotRegex(plain, r"(?<!\bnot)(?<!\band)(?<!\bor)(?<!~[0-9])(?<!~[0-9][0-9]) (?!and |or |~)")

    def test_some_by_hand(self):
        for told, line in BY_HAND:
            self.check_written(told, line)

    def test_each_form_beneath_each(self):
        for told in some_told():
            self.check_written(told)

    def test_all_ways_to_join_four(self):
        def joined(leaves):
            if len(leaves) == 1:
                yield leaves[0]
                yield ("not", leaves[0])
            for many in range(1, len(leaves)):
                for one, other in itertools.product(list(joined(leaves[:many])), list(joined(leaves[many:]))):
                    yield ("both", one, other)
                    yield ("either", one, other)

        for told in joined([A, B, C, D]):
            self.check_written(told)
        for told in joined([A, NEAR, C]):
            self.check_written(("not", told))

    def test_as_deep_and_great_as_may_be(self):
        for many in range(8):
            self.check_written(in_nots(A, many), "not " * many + "a")
        for name, joining in (("both", " and "), ("either", " or ")):
            left = right = A
            for turn in range(7):
                left, right = (name, left, B), (name, B, right)
            self.check_written(left, joining.join("abbbbbbb"))
            self.check_written(right, ("b" + joining + "(") * 6 + "b" + joining + "a" + ")" * 6)
            self.check_written(("not", balanced(20, name)))
        zigzag = A
        for turn in range(7):
            zigzag = ("either" if turn % 2 else "both", B, zigzag)
        self.assertEqual(deep_of(zigzag), 8)
        self.check_written(zigzag)

    def test_long_words(self):
        self.check_written(("word", "x" * 2000), "x" * 2000)
        self.check_written(("start", "x" * 1999), "x" * 1999 + "*")
        self.check_written(("row", ("x" * 998, "y" * 999)), '"' + "x" * 998 + " " + "y" * 999 + '"')

    def test_a_row_of_a_list_is_written_as_that_of_a_tuple(self):
        self.assertEqual(Row(["a", "or", "b"]).written(), '"a or b"')
        self.assertEqual(Row(("a", "or", "b")).written(), '"a or b"')

    def test_made_by_the_classes(self):
        near = Near(Word("and"), Row(["or", "b"]), 12)
        self.assertEqual(near.written(), '"and" ~12 "or b"')
        ask = Both(Not(Either(near, Start("not"))), Both(Word("a"), Word("or")))
        self.assertEqual(ask.written(), 'not ("and" ~12 "or b" or not*) and (a and "or")')

    def test_what_is_read_is_written_plainly(self):
        for line, wanted in (
            ("A  b", "a and b"), ("((a))", "a"), ('"a"', "a"), ('" And "', '"and"'), ('"a   B"', '"a b"'),
            ("a~3 b", "a ~3 b"), ("(a b) c", "a and b and c"), ("a (b c)", "a and (b and c)"),
            ("(a or b) or (c)", "a or b or c"),
            ("not(a)", "not a"), ("NOT ( a ~0 b )", "not a ~0 b"), ("(a and b) or c", "a and b or c"),
        ):
            self.assertEqual(read_ask(line).written(), wanted)


if __name__ == "__main__":
    unittest.main()
