import inspect
import itertools
import random
import unittest

from findhall import asks
from findhall.asks import Ask, Both, Either, Near, Not, Row, Start, Word, ask_of
from findhall.errors import BadAsk
from handed import (
    GREAT_NUMBER, RefusalCase, Thing, balanced, beneath, built, chance_told, deep_of, in_nots, many_of, no_strs,
    no_whole_numbers, no_words)

CLASSES = {
    "word": Word, "start": Start, "row": Row, "near": Near, "both": Both, "either": Either, "not": Not,
}
A, B, C = ("word", "a"), ("word", "b"), ("word", "c")
START, ROW = ("start", "ab"), ("row", ("a", "b"))
NEAR = ("near", A, ROW, 3)
TOLD = [
    A, ("word", "x" * 2000), ("word", "and"), ("word", "or"), ("word", "not"), ("word", "0"), START, ("start", "not"),
    ROW, ("row", ("a", "a")), ("row", ("or", "not", "and")), ("row", tuple("abcdefgh")), NEAR, ("near", A, A, 0),
    ("near", START, B, 20), ("near", ROW, START, 7), ("both", A, B), ("both", A, A), ("either", A, B),
    ("either", NEAR, ("not", A)), ("not", A), ("not", ("not", ROW)), ("not", NEAR),
    ("both", ("either", A, B), ("not", ("both", START, NEAR))), ("either", ("both", A, B), ("either", B, C)),
]


def looked_leaves(told):
    """The leaves by the words of the document, told as tuples."""
    if told[0] in ("word", "start", "row", "near"):
        return [told]
    if told[0] == "not":
        return []
    return [leaf for one in beneath(told) for leaf in looked_leaves(one)]


def some_told():
    # The seed is fixed, so that each run looks at the same questions.
    chance = random.Random(2)
    made = [chance_told(chance, ("a", "b", "ab", "and"), chance.randrange(1, 7)) for turn in range(300)]
    return TOLD + [told for told in made if many_of(told) <= 40]


class AskCase(RefusalCase):
    def check_ask(self, ask, told):
        self.assertIs(type(ask), CLASSES[told[0]])
        self.assertIsInstance(ask, Ask)
        self.check_like(ask.told(), told)
        kids = ask.kids()
        self.assertIs(type(kids), list)
        self.assertEqual([kid.told() for kid in kids], beneath(told))
        for kid, one in zip(kids, beneath(told)):
            self.check_ask(kid, one)
        leaves = ask.leaves()
        self.assertIs(type(leaves), list)
        self.assertEqual([leaf.told() for leaf in leaves], looked_leaves(told))
        for leaf in leaves:
            self.assertIsInstance(leaf, (Word, Start, Row, Near))
        self.assertIs(type(ask.written()), str)

    def check_like(self, one, other):
        self.assertEqual(one, other)
        self.assertIs(type(one), type(other))
        if isinstance(one, tuple):
            for within, beside in zip(one, other):
                self.check_like(within, beside)


class MadeTest(AskCase):
    def test_the_classes(self):
        for name, own in CLASSES.items():
            self.assertTrue(issubclass(own, Ask))
            self.assertIs(getattr(asks, own.__name__), own)
            for other in CLASSES.values():
                self.assertEqual(issubclass(own, other), own is other)
            for method in ("told", "written", "kids", "leaves", "holds", "spans"):
                self.assertTrue(callable(getattr(own, method)))
            for method in ("holds", "spans"):
                self.assertEqual(list(inspect.signature(getattr(own, method)).parameters), ["self", "words"])
        self.assertEqual(len(set(CLASSES.values())), 7)

    def test_each_form_made_by_its_class(self):
        for told in some_told():
            self.check_ask(built(told), told)

    def test_the_arguments_have_their_names(self):
        one, other = Word(word="a"), Start(word="b")
        self.assertEqual(one.told(), ("word", "a"))
        self.assertEqual(other.told(), ("start", "b"))
        self.assertEqual(Row(words=["a", "b"]).told(), ("row", ("a", "b")))
        near = Near(one=one, other=other, far=2)
        self.assertEqual(near.told(), ("near", ("word", "a"), ("start", "b"), 2))
        self.assertEqual(Both(one=one, other=other).told(), ("both", ("word", "a"), ("start", "b")))
        self.assertEqual(Either(one=one, other=other).told(), ("either", ("word", "a"), ("start", "b")))
        self.assertEqual(Not(one=one).told(), ("not", ("word", "a")))
        self.assertEqual(ask_of(told=("word", "a")).told(), ("word", "a"))
        self.assertEqual(one.holds(words=["a"]), True)
        self.assertEqual(one.spans(words=["a"]), [(0, 0)])

    def test_a_row_of_a_list_and_of_a_tuple(self):
        for words in (["a", "b"], ["or", "not"], list("abcdefgh")):
            self.check_ask(Row(words), ("row", tuple(words)))
            self.check_ask(Row(tuple(words)), ("row", tuple(words)))

    def test_the_kids_are_those_handed_in(self):
        one, other = Word("a"), Row(["b", "c"])
        for ask in (Near(one, other, 1), Both(one, other), Either(one, other)):
            self.assertEqual(ask.kids(), [one, other])
        self.assertEqual(Not(other).kids(), [other])
        for ask in (one, other, Start("a")):
            self.assertEqual(ask.kids(), [])

    def test_what_lies_somewhat_beyond_the_bounds_is_not_refused(self):
        deep = in_nots(A, 30)
        self.check_ask(built(deep), deep)
        great = balanced(64)
        self.check_ask(built(great), great)
        self.assertEqual(len(built(great).leaves()), 64)
        for told in (("near", A, B, 21), ("row", tuple("abcdefghi"))):
            self.check_ask(built(told), told)


class LeavesTest(AskCase):
    def check_leaves(self, told, wanted):
        self.assertEqual([leaf.told() for leaf in built(told).leaves()], wanted)

    def test_from_left_to_right_each_so_often_as_it_stands(self):
        self.check_leaves(A, [A])
        self.check_leaves(START, [START])
        self.check_leaves(ROW, [ROW])
        self.check_leaves(("both", A, A), [A, A])
        self.check_leaves(("either", B, ("both", A, B)), [B, A, B])
        self.check_leaves(("both", ("either", C, START), ("both", ROW, ("either", A, C))), [C, START, ROW, A, C])

    def test_none_within_a_near(self):
        self.check_leaves(NEAR, [NEAR])
        self.check_leaves(("both", NEAR, A), [NEAR, A])
        self.check_leaves(("either", ("near", A, A, 0), ("near", A, A, 0)), [("near", A, A, 0)] * 2)

    def test_none_under_a_not(self):
        self.check_leaves(("not", A), [])
        self.check_leaves(("not", ("not", A)), [])
        self.check_leaves(("not", NEAR), [])
        self.check_leaves(("both", ("not", ("both", A, B)), C), [C])
        self.check_leaves(("either", A, ("not", ("not", B))), [A])

    def test_a_leaf_is_the_very_question(self):
        one, other = Word("a"), Near(Word("b"), Start("c"), 2)
        self.assertEqual(Both(Either(one, other), Not(Word("a"))).leaves(), [one, other])
        self.assertEqual(one.leaves(), [one])


class AskOfTest(AskCase):
    def test_each_form(self):
        for told in some_told():
            self.check_ask(ask_of(told), told)

    def test_deep_ones(self):
        for many in range(8):
            self.check_ask(ask_of(in_nots(A, many)), in_nots(A, many))
            self.check_ask(ask_of(in_nots(ROW, many)), in_nots(ROW, many))
        self.check_ask(ask_of(in_nots(NEAR, 6)), in_nots(NEAR, 6))
        for name in ("both", "either"):
            left = right = A
            for turn in range(7):
                left, right = (name, left, B), (name, B, right)
            for told in (left, right):
                self.assertEqual(deep_of(told), 8)
                self.check_ask(ask_of(told), told)

    def test_too_deep_ones(self):
        for many in (8, 9, 10, 40, 100, 2000, 100000):
            for within in (A, START, ROW, NEAR, None):
                self.check_refused(BadAsk, ask_of, in_nots(within, many))
        self.check_refused(BadAsk, ask_of, in_nots(NEAR, 7))
        for name in ("both", "either"):
            for many in (8, 9, 2000, 100000):
                left = right = A
                for turn in range(many):
                    left, right = (name, left, B), (name, B, right)
                self.check_refused(BadAsk, ask_of, left)
                self.check_refused(BadAsk, ask_of, right)

    def test_a_near_counts_what_is_beneath_it_as_deeper(self):
        for name in ("both", "either"):
            told = NEAR
            for turn in range(6):
                told = (name, A, told)
            self.assertEqual(deep_of(told), 8)
            self.check_ask(ask_of(told), told)
            self.check_refused(BadAsk, ask_of, (name, A, told))

    def test_great_ones(self):
        self.assertEqual((many_of(balanced(20)), many_of(balanced(21))), (39, 41))
        for name in ("both", "either"):
            self.check_ask(ask_of(balanced(20, name)), balanced(20, name))
            just = ("not", balanced(20, name))
            self.assertEqual(many_of(just), 40)
            self.check_ask(ask_of(just), just)
            self.check_refused(BadAsk, ask_of, ("not", just))
            self.check_refused(BadAsk, ask_of, balanced(21, name))
            self.check_refused(BadAsk, ask_of, balanced(128, name))

    def test_a_near_is_three(self):
        told = NEAR
        for turn in range(3):
            told = ("both", told, told)
        self.assertEqual(many_of(told), 31)
        just = ("either", told, balanced(4))
        self.assertEqual(many_of(just), 39)
        self.check_ask(ask_of(just), just)
        self.check_ask(ask_of(("not", just)), ("not", just))
        great = ("either", told, ("both", ("not", balanced(2)), ("not", NEAR)))
        self.assertEqual(many_of(great), 41)
        self.check_refused(BadAsk, ask_of, great)
        eleven = ("both", told, ("both", ("both", NEAR, NEAR), NEAR))
        self.assertEqual(many_of(eleven), 43)
        self.check_refused(BadAsk, ask_of, eleven)

    def test_a_row_is_one(self):
        row = ("row", tuple("abcdefgh"))
        told = row
        for turn in range(4):
            told = ("both", told, told)
        self.assertEqual(many_of(told), 31)
        self.check_ask(ask_of(told), told)

    def test_what_is_told_again_is_asked_again(self):
        for told in some_told():
            self.assertEqual(ask_of(ask_of(told).told()).told(), told)

    def test_two_are_of_their_own(self):
        self.assertIsNot(ask_of(A), ask_of(A))


class RefusedTest(AskCase):
    def check_no_ask(self, thing):
        """It is refused by itself and deep within."""
        self.check_refused(BadAsk, ask_of, thing)
        for around in (
            ("not", thing), ("both", thing, A), ("both", A, thing), ("either", thing, B), ("either", B, thing),
            ("near", thing, A, 1), ("near", A, thing, 1), in_nots(thing, 5), ("both", A, ("either", B, ("not", thing))),
        ):
            self.check_refused(BadAsk, ask_of, around)

    def test_what_is_no_tuple(self):
        for thing in no_strs():
            self.check_no_ask(thing)
        for thing in (
            "", "a", "word", "word a", ["word", "a"], ["not", A], {"word": "a"}, Word("a"), Not(Word("a")), Word,
        ):
            self.check_no_ask(thing)

    def test_names_that_are_none(self):
        for name in no_strs() + ["", "Word", "WORD", "words", "wor", "and", "or", "a", "word ", "ask"]:
            for rest in ((), ("a",), (A,), (A, B), (A, B, 3), (("a", "b"),)):
                self.check_no_ask((name,) + rest)

    def test_too_few_and_too_many(self):
        for told in TOLD:
            for many in range(len(told)):
                self.check_no_ask(told[:many])
            for more in (None, "a", A, 3, ()):
                self.check_no_ask(told + (more,))

    def test_what_is_no_word(self):
        for thing in no_words():
            self.check_no_ask(("word", thing))
            self.check_no_ask(("start", thing))
            for words in ((thing, "a"), ("a", thing), ("a", "b", thing), tuple("abcdefg") + (thing,)):
                self.check_no_ask(("row", words))
        for thing in TOLD:
            self.check_no_ask(("word", thing))
            self.check_no_ask(("row", ("a", thing)))

    def test_rows_of_wrong_lengths(self):
        for many in (0, 1, 9, 10, 100):
            self.check_no_ask(("row", ("a",) * many))

    def test_rows_that_are_no_tuples(self):
        wrong = [thing for thing in no_strs() if not isinstance(thing, tuple)]
        for thing in wrong + ["ab", "a b", ["a", "b"], {"a": "b", "b": "a"}, {"a", "b"}, range(2), iter(("a", "b"))]:
            self.check_no_ask(("row", thing))
        self.check_no_ask(("row", "a", "b"))

    def test_fars_that_are_none(self):
        for far in no_whole_numbers() + [-1, 21, 22, GREAT_NUMBER, -GREAT_NUMBER]:
            self.check_no_ask(("near", A, B, far))
        for far in range(21):
            self.check_ask(ask_of(("near", A, B, far)), ("near", A, B, far))

    def test_near_of_what_stands_near_nothing(self):
        for wrong in (("both", A, B), ("either", A, B), ("not", A), NEAR):
            self.check_no_ask(("near", wrong, A, 1))
            self.check_no_ask(("near", A, wrong, 1))
            self.check_no_ask(("near", wrong, wrong, 1))

    def test_what_stands_in_a_question_s_place(self):
        for thing in no_strs() + ["", "a", "word", ["word", "a"], ("a",), ("word",), ()]:
            for told in (
                ("not", thing), ("both", thing, A), ("both", A, thing), ("either", thing, A), ("either", A, thing),
                ("near", thing, A, 1), ("near", A, thing, 1),
            ):
                self.check_refused(BadAsk, ask_of, told)

    def test_a_list_in_a_tuple_s_place(self):
        for told in TOLD:
            self.check_no_ask(list(told))
            for place, within in enumerate(told):
                if isinstance(within, tuple):
                    self.check_no_ask(told[:place] + (list(within),) + told[place + 1:])

    def test_lists_handed_in_stay(self):
        row = ["a", "b"]
        self.check_refused(BadAsk, ask_of, ("row", row))
        self.check_refused(BadAsk, ask_of, row)
        self.assertEqual(row, ["a", "b"])

    def test_things_that_let_nobody_look(self):
        for told in ((Thing(),), (Thing(), Thing()), ("near", A, B, Thing()), ("row", (Thing(), Thing()))):
            self.check_no_ask(told)


class OwnTest(AskCase):
    def test_the_list_of_a_row_is_changed_behind_it(self):
        words = ["a", "b"]
        row = Row(words)
        words[0] = "z"
        words.append("c")
        self.check_ask(row, ("row", ("a", "b")))
        self.assertEqual(row.spans(["a", "b", "z", "b", "c"]), [(0, 1)])
        words.clear()
        self.check_ask(row, ("row", ("a", "b")))
        self.assertEqual(row.written(), '"a b"')

    def test_the_list_of_a_row_stays(self):
        words = ["a", "b"]
        row = Row(words)
        row.told()
        row.spans(["a", "b"])
        self.assertEqual(words, ["a", "b"])

    def test_told_lists_are_changed(self):
        for told in some_told():
            ask = built(told)
            written = ask.written()
            for call in (ask.kids, ask.leaves):
                one = call()
                one.append(Word("more"))
                one.reverse()
                self.check_ask(ask, told)
                one.clear()
                self.check_ask(ask, told)
            self.assertEqual(ask.written(), written)

    def test_what_is_told_stays(self):
        for told in some_told():
            ask = ask_of(told)
            kids, leaves = ask.kids(), ask.leaves()
            before = (list(kids), list(leaves))
            ask.kids().clear()
            ask.leaves().clear()
            ask.spans(["a", "b"])
            ask.holds(["a", "b"])
            Both(ask, Word("a")).leaves().clear()
            self.assertEqual((kids, leaves), before)

    def test_one_question_beneath_several(self):
        one = Word("a")
        for made in itertools.product((Both, Either), repeat=2):
            ask = made[0](one, made[1](one, one))
            self.assertEqual(ask.leaves(), [one, one, one])
            self.assertEqual(one.told(), A)


if __name__ == "__main__":
    unittest.main()
