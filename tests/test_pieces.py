import inspect
import itertools
import random
import unittest

from findhall.asks import Either, Near, Row, Word
from findhall.books import Book
from findhall.errors import BadNumber, BadSpan, BadText
from findhall.finding import spans_in
from findhall.pieces import pieces_of, windows
from findhall.words import words_in
from handed import GREAT_NUMBER, RefusalCase, Thing, groups, no_lists, no_texts, no_whole_numbers

WRONG_NUMBERS = no_whole_numbers() + [-1, -2, -200, -GREAT_NUMBER]
TEXT = "  The cat, the dog\nand A-b: nine ten ELEVEN twelve (13) 14 15 sixteen! "


def no_spans(size):
    """What is no span of a text of so many words."""
    wrong = [thing for thing in no_whole_numbers() if not isinstance(thing, tuple)]
    wrong += [0, 1, -1, "00", [0, 0], {0: 0}, (), (0,), (0, 0, 0), ((0, 0),), ((0, 0), (0, 0)), [(0, 0)]]
    for thing in no_whole_numbers() + [-1, -size, size, size + 1, GREAT_NUMBER, -GREAT_NUMBER]:
        wrong += [(thing, 0), (0, thing), (thing, thing), (thing, size - 1)]
    return wrong + [(place + 1, place) for place in range(size)] + [(size - 1, 0)] * (size > 1)


def looked_windows(size, spans, around):
    """By a look at each place, to be compared with the program."""
    return groups({
        place for place in range(size)
        if any(begin - around <= place <= end + around for begin, end in spans)
    })


def looked_pieces(text, spans, around, most):
    words = words_in(text)
    marks = groups({place for begin, end in spans for place in range(begin, end + 1)})
    return [
        (words[begin][1], words[end][2], [
            (words[first][1], words[last][2]) for first, last in marks if begin <= first and last <= end])
        for begin, end in looked_windows(len(words), spans, around)
    ][:most]


class PiecesCase(RefusalCase):
    def check_windows(self, size, spans, around, wanted=None):
        handed = list(spans)
        told = windows(size, handed, around)
        self.check_list(told, looked_windows(size, spans, around) if wanted is None else wanted)
        self.check_spans(told)
        self.assertEqual(handed, list(spans))

    def check_spans(self, told):
        for span in told:
            self.assertIs(type(span), tuple)
            self.assertEqual([type(place) for place in span], [int, int])

    def check_pieces(self, text, spans, *others, wanted=None):
        handed = list(spans)
        told = pieces_of(text, handed, *others)
        around, most = list(others) + [3, 3][len(others):]
        self.check_list(told, looked_pieces(text, spans, around, most) if wanted is None else wanted)
        for piece in told:
            self.assertEqual([type(part) for part in piece], [int, int, list])
            self.check_spans(piece[2])
            self.check_piece(text, piece)
        self.assertEqual(handed, list(spans))

    def check_piece(self, text, piece):
        """It is a piece of the text as the document says what one is."""
        begins = {begin: place for place, (word, begin, end) in enumerate(words_in(text))}
        ends = {end: place for place, (word, begin, end) in enumerate(words_in(text))}
        begin, end, marks = piece
        self.assertIs(type(piece), tuple)
        self.assertLessEqual(begins[begin], ends[end])
        self.assertGreaterEqual(len(marks), 1)
        ahead = begins[begin] - 2
        for first, last in marks:
            self.assertGreaterEqual(begins[first], ahead + 2)
            self.assertGreaterEqual(ends[last], begins[first])
            ahead = ends[last]
        self.assertLessEqual(ahead, ends[end])


class WindowsTest(PiecesCase):
    def test_no_words_and_no_spans(self):
        for size, around in itertools.product((0, 1, 2, 200, GREAT_NUMBER), (0, 1, 3, 200, GREAT_NUMBER)):
            self.check_list(windows(size, [], around), [])

    def test_one_word(self):
        for around in (0, 1, 5, GREAT_NUMBER):
            self.check_windows(1, [(0, 0)], around, [(0, 0)])
            self.check_windows(1, [(0, 0)] * 3, around, [(0, 0)])

    def test_some_by_hand(self):
        for spans, around, wanted in (
            ([(5, 5)], 0, [(5, 5)]), ([(5, 5)], 2, [(3, 7)]), ([(5, 8)], 2, [(3, 10)]), ([(0, 0)], 3, [(0, 3)]),
            ([(199, 199)], 3, [(196, 199)]), ([(0, 199)], 3, [(0, 199)]), ([(100, 100)], 200, [(0, 199)]),
            ([(100, 100)], 99, [(1, 199)]), ([(100, 100)], 98, [(2, 198)]), ([(9, 9), (3, 3)], 1, [(2, 4), (8, 10)]),
            ([(5, 9), (7, 12)], 0, [(5, 12)]), ([(5, 20), (7, 12)], 0, [(5, 20)]), ([(5, 6), (7, 8)], 0, [(5, 8)]),
            ([(5, 6), (8, 8)], 0, [(5, 6), (8, 8)]), ([(7, 8), (5, 6), (7, 8)], 0, [(5, 8)]),
            ([(5, 5), (5, 9)], 1, [(4, 10)]), ([(0, 9), (2, 3), (5, 5), (10, 11)], 0, [(0, 11)]),
        ):
            self.check_windows(200, spans, around, wanted)

    def test_neighbours_that_just_meet_and_just_do_not(self):
        for around in (0, 1, 2, 7, 20):
            far = 2 * around
            self.check_windows(200, [(50, 51), (52 + far, 60 + far)], around, [(50 - around, 60 + far + around)])
            self.check_windows(200, [(53 + far, 60 + far), (50, 51)], around, [
                (50 - around, 51 + around), (53 + far - around, 60 + far + around)])
            three = [(50, 50), (51 + far, 51 + far), (52 + 2 * far, 52 + 2 * far)]
            for spans in itertools.permutations(three):
                self.check_windows(200, spans, around, [(50 - around, 52 + 2 * far + around)])
            three = [(50, 50), (52 + far, 52 + far), (54 + 2 * far, 54 + 2 * far)]
            for spans in itertools.permutations(three):
                self.check_windows(200, spans, around, [(place - around, place + around) for place, last in three])

    def test_all_of_a_short_text(self):
        every = [(begin, end) for begin in range(5) for end in range(begin, 5)]
        for many in range(4):
            for spans in itertools.product(every, repeat=many):
                for around in (0, 1) if many == 3 else (0, 1, 2, 5, 9):
                    self.check_windows(5, spans, around)

    def test_by_chance(self):
        chance = random.Random(16)
        for turn in range(300):
            size = chance.choice((1, 2, 30, 200))
            spans = [tuple(sorted((chance.randrange(size), chance.randrange(size)))) for span in range(3)]
            spans += [(place, min(size - 1, place + 1)) for place in chance.choices(range(size), k=5)]
            self.check_windows(size, chance.sample(spans, chance.randrange(9)), chance.choice((0, 1, 2, 3, 10, 500)))

    def test_great_sizes(self):
        great = GREAT_NUMBER
        self.check_list(windows(great, [(great - 1, great - 1), (0, 0)], 3), [(0, 3), (great - 4, great - 1)])
        self.check_list(windows(great, [(7, great - 2)], great), [(0, great - 1)])
        self.check_list(windows(10 ** 9, [(5, 10 ** 9 - 3), (0, 1)], 1), [(0, 2), (4, 10 ** 9 - 2)])

    def test_sizes_and_arounds_that_are_none(self):
        for thing in WRONG_NUMBERS:
            for spans in ([(0, 0)], [], None, [(9, 9)], [None], "", Thing()):
                self.check_refused(BadNumber, windows, thing, spans, 1)
                self.check_refused(BadNumber, windows, 5, spans, thing)
                self.check_refused(BadNumber, windows, thing, spans, thing)
                self.check_refused(BadNumber, windows, 0, spans, thing)

    def test_what_are_no_spans(self):
        for thing in no_lists() + [(0, 0), ((0, 0),), ((0, 0), (1, 1)), "00", {(0, 0): (0, 0)}, {(0, 0)}]:
            for size in (0, 1, 200):
                for around in (0, 3, GREAT_NUMBER):
                    self.check_refused(BadSpan, windows, size, thing, around)

    def test_one_among_them_that_is_no_span(self):
        for size in (0, 1, 2, 12):
            right = [(place, size - 1) for place in range(size)] * 2
            for thing in no_spans(size):
                for place in sorted({0, len(right) // 2, len(right)}):
                    spans = right[:place] + [thing] + right[place:]
                    self.check_refused(BadSpan, windows, size, spans, 1)
                self.check_refused(BadSpan, windows, size, [thing], 0)
                self.check_refused(BadSpan, windows, size, [thing, thing], GREAT_NUMBER)
            self.check_windows(size, right, 1)

    def test_a_text_without_words_has_no_span(self):
        for around in (0, 3, GREAT_NUMBER):
            self.check_refused(BadSpan, windows, 0, [(0, 0)], around)
            self.check_refused(BadSpan, windows, 0, [(0, -1)], around)

    def test_the_refused_list_stays(self):
        spans = [(5, 5), (1, 1), (9, 8)]
        self.check_refused(BadSpan, windows, 20, spans, 1)
        self.check_refused(BadNumber, windows, 20, spans, -1)
        self.assertEqual(spans, [(5, 5), (1, 1), (9, 8)])
        spans.pop()
        self.check_windows(20, spans, 1, [(0, 2), (4, 6)])

    def test_lists_are_changed_behind_the_call(self):
        for around in (0, 1):
            spans = [(9, 9), (3, 5), (3, 5)]
            told = windows(20, spans, around)
            wanted = list(told)
            spans.append((0, 19))
            self.assertEqual(told, wanted)
            self.check_windows(20, spans, around, [(0, 19)])
            spans.pop()
            told.reverse()
            told.append((1, 1))
            self.assertEqual(spans, [(9, 9), (3, 5), (3, 5)])
            self.check_windows(20, spans, around, wanted)
            told.clear()
            self.check_windows(20, spans, around, wanted)

    def test_the_arguments_have_their_names(self):
        self.assertEqual(windows(size=9, spans=[(3, 3)], around=1), [(2, 4)])
        self.assertEqual(str(inspect.signature(windows)), "(size, spans, around)")


class PiecesTest(PiecesCase):
    def test_texts_without_words(self):
        for text in ("", " ", "-.-\n", "~" * 2000):
            for others in ((), (0, 0), (3,), (GREAT_NUMBER, GREAT_NUMBER)):
                self.check_pieces(text, [], *others, wanted=[])
                self.check_refused(BadSpan, pieces_of, text, [(0, 0)], *others)

    def test_texts_of_one_word(self):
        for text, begin, end in (("a", 0, 1), (" -a", 2, 3), ("Ab9\n", 0, 3), ("(word) ", 1, 5), ("a" * 2000, 0, 2000)):
            for others in ((), (0,), (0, 1), (GREAT_NUMBER, GREAT_NUMBER)):
                self.check_pieces(text, [(0, 0)], *others, wanted=[(begin, end, [(begin, end)])])
                self.check_pieces(text, [(0, 0)] * 3, *others, wanted=[(begin, end, [(begin, end)])])
                self.check_pieces(text, [], *others, wanted=[])
            self.check_pieces(text, [(0, 0)], 3, 0, wanted=[])

    def test_some_by_hand(self):
        text = "The cat, the dog\nand (nine) ten."
        for spans, others, wanted in (
            ([(1, 1)], (0,), [(4, 7, [(4, 7)])]), ([(1, 1)], (1,), [(0, 12, [(4, 7)])]),
            ([(1, 2)], (0,), [(4, 12, [(4, 12)])]), ([(6, 6)], (1,), [(22, 31, [(28, 31)])]),
            ([(6, 6)], (), [(13, 31, [(28, 31)])]), ([(0, 0)], (), [(0, 16, [(0, 3)])]),
            ([(0, 0), (2, 2)], (0,), [(0, 3, [(0, 3)]), (9, 12, [(9, 12)])]),
            ([(0, 0), (2, 2)], (1,), [(0, 16, [(0, 3), (9, 12)])]),
            ([(2, 2), (0, 0), (1, 1)], (0,), [(0, 12, [(0, 12)])]),
            ([(6, 6), (0, 1), (1, 2)], (1,), [(0, 16, [(0, 12)]), (22, 31, [(28, 31)])]),
            ([(6, 6), (0, 1), (1, 2)], (1, 1), [(0, 16, [(0, 12)])]),
            ([(5, 5), (0, 1), (1, 2)], (1,), [(0, 31, [(0, 12), (22, 26)])]),
            ([(0, 6), (3, 3)], (9, 9), [(0, 31, [(0, 31)])]),
        ):
            self.check_pieces(text, spans, *others, wanted=wanted)

    def test_other_signs_ahead_between_and_behind(self):
        self.check_pieces("..a", [(0, 0)], wanted=[(2, 3, [(2, 3)])])
        self.check_pieces("\n a - b [c] \\", [(1, 1)], 0, wanted=[(6, 7, [(6, 7)])])
        self.check_pieces("\n a - b [c] \\", [(1, 1)], 1, wanted=[(2, 10, [(6, 7)])])
        self.check_pieces("\n a - b [c] \\", [(0, 0), (2, 2)], 1, wanted=[(2, 10, [(2, 3), (9, 10)])])
        self.check_pieces("\n a - b [c] \\", [(0, 0), (2, 2), (1, 1)], 1, wanted=[(2, 10, [(2, 10)])])

    def test_around_and_most_left_out(self):
        text = " ".join("w" + str(number) for number in range(60))
        spans = [(55, 55), (5, 5), (20, 21), (35, 35), (12, 12)]
        self.assertEqual(windows(60, spans, 3), [(2, 15), (17, 24), (32, 38), (52, 58)])
        self.check_pieces(text, spans)
        self.assertEqual(pieces_of(text, spans), pieces_of(text, spans, 3, 3))
        self.assertEqual(len(pieces_of(text, spans)), 3)
        self.assertEqual(pieces_of(text, spans, 2), pieces_of(text, spans, 2, 3))
        self.assertEqual(pieces_of(text, spans, most=9), pieces_of(text, spans, 3, 9))
        self.assertEqual(len(pieces_of(text, spans, 2, 9)), 5)
        self.assertEqual(str(inspect.signature(pieces_of)), "(text, spans, around=3, most=3)")
        self.assertEqual(pieces_of(text=text, spans=spans, around=0, most=1), [(15, 17, [(15, 17)])])

    def test_fewer_as_many_and_more_than_most(self):
        spans = [(0, 0), (4, 4), (8, 8), (12, 12)]
        for most in (0, 1, 3, 4, 5, 50, GREAT_NUMBER):
            for around in (0, 1, 2, 3, 50, GREAT_NUMBER):
                self.check_pieces(TEXT, spans, around, most)
                self.check_pieces(TEXT, spans[::-1] * 2, around, most)
        self.assertEqual([len(pieces_of(TEXT, spans, 1, most)) for most in (0, 1, 3, 4, 5)], [0, 1, 3, 4, 4])
        self.assertEqual([len(pieces_of(TEXT, spans, 2, most)) for most in (0, 1, 3, 4, 5)], [0, 1, 1, 1, 1])

    def test_spans_side_by_side_and_overlapping_are_one_mark(self):
        for spans in ([(1, 2), (3, 4)], [(3, 4), (1, 2)], [(1, 3), (2, 4)], [(1, 4), (2, 3)], [(1, 1), (2, 2), (3, 4)]):
            self.check_pieces("a b c d e f", spans, 0, wanted=[(2, 9, [(2, 9)])])
            self.check_pieces("a b c d e f", spans, 1, wanted=[(0, 11, [(2, 9)])])
        self.check_pieces("a b c d e f", [(1, 1), (3, 3), (5, 5)], 1, wanted=[(0, 11, [(2, 3), (6, 7), (10, 11)])])

    def test_all_of_a_short_text(self):
        text = "-a, B\nc9 (dd) e."
        every = [(begin, end) for begin in range(5) for end in range(begin, 5)]
        for many in range(4):
            for spans in itertools.product(every, repeat=many):
                for others in ((0, 9), (1, 1)) if many == 3 else ((), (0,), (0, 1), (1, 2), (2,), (9, 9)):
                    self.check_pieces(text, spans, *others)

    def test_by_chance(self):
        chance = random.Random(17)
        for turn in range(300):
            text = "".join(chance.choice("aB9 -\n ,[]") for sign in range(chance.choice((0, 5, 40, 300, 2000))))
            size = len(words_in(text))
            spans = [
                (place, min(size - 1, place + chance.choice((0, 0, 1, 7))))
                for place in chance.choices(range(size), k=chance.randrange(9))
            ] if size else []
            self.check_pieces(text, spans, chance.choice((0, 1, 2, 3, 10, 500)), chance.choice((0, 1, 2, 3, 10)))

    def test_by_the_spans_of_a_question(self):
        ask = Either(Row(["the", "dog"]), Either(Word("ten"), Near(Word("13"), Word("15"), 1)))
        spans = spans_in(Book([("k", TEXT)]), ask, 0)
        self.assertEqual(spans, [(2, 3), (8, 8), (11, 13)])
        signs = [[TEXT[begin:end] for begin, end in [piece[:2]] + piece[2]] for piece in pieces_of(TEXT, spans, 1)]
        self.assertEqual(signs, [
            ["cat, the dog\nand", "the dog"], ["nine ten ELEVEN twelve (13) 14 15 sixteen", "ten", "13) 14 15"]])
        signs = [TEXT[begin:end] for begin, end, marks in pieces_of(TEXT, spans, 0, 2)]
        self.assertEqual(signs, ["the dog", "ten"])
        self.check_pieces(TEXT, spans, 1)


class RefusedTest(PiecesCase):
    def test_what_is_no_text(self):
        for thing in no_texts():
            for spans in ([], [(0, 0)], [(9, 9)], None, [None], "", Thing()):
                self.check_refused(BadText, pieces_of, thing, spans)
                self.check_refused(BadText, pieces_of, thing, spans, -1)
                self.check_refused(BadText, pieces_of, thing, spans, 3, Thing())
                self.check_refused(BadText, pieces_of, thing, spans, None, None)

    def test_arounds_and_mosts_that_are_none(self):
        for text in ("", "a b c"):
            for thing in WRONG_NUMBERS:
                for spans in ([], [(0, 0)], [(9, 9)], None, [None], "", Thing()):
                    self.check_refused(BadNumber, pieces_of, text, spans, thing)
                    self.check_refused(BadNumber, pieces_of, text, spans, thing, 3)
                    self.check_refused(BadNumber, pieces_of, text, spans, 0, thing)
                    self.check_refused(BadNumber, pieces_of, text, spans, thing, thing)

    def test_what_are_no_spans(self):
        for text in ("", "a b c"):
            for thing in no_lists() + [(0, 0), ((0, 0),), ((0, 0), (1, 1)), "00", {(0, 0): (0, 0)}]:
                for others in ((), (0,), (0, 0), (GREAT_NUMBER, GREAT_NUMBER)):
                    self.check_refused(BadSpan, pieces_of, text, thing, *others)

    def test_one_among_them_that_is_no_span(self):
        for text, size in (("", 0), ("-a-", 1), ("a b, c d", 4)):
            right = [(place, size - 1) for place in range(size)]
            for thing in no_spans(size):
                for place in sorted({0, len(right) // 2, len(right)}):
                    spans = right[:place] + [thing] + right[place:]
                    self.check_refused(BadSpan, pieces_of, text, spans)
                    self.check_refused(BadSpan, pieces_of, text, spans, 0, 0)
            self.check_pieces(text, right)

    def test_the_refused_list_stays(self):
        spans = [(2, 2), (0, 0), (9, 9)]
        for text, others, refusal in (("a b c", (), BadSpan), ("a b c", (-1,), BadNumber), (None, (), BadText)):
            self.check_refused(refusal, pieces_of, text, spans, *others)
            self.assertEqual(spans, [(2, 2), (0, 0), (9, 9)])
        spans.pop()
        self.check_pieces("a b c", spans, 0)


class OwnTest(PiecesCase):
    def test_told_pieces_and_marks_are_changed(self):
        spans = [(8, 8), (2, 3), (11, 13)]
        ahead = looked_pieces(TEXT, spans, 1, 3)
        told = pieces_of(TEXT, spans, 1)
        for piece in told:
            piece[2].append((0, 1))
            piece[2].reverse()
        self.check_pieces(TEXT, spans, 1, wanted=ahead)
        for piece in told:
            piece[2].clear()
        told.reverse()
        self.check_pieces(TEXT, spans, 1, wanted=ahead)
        told.clear()
        self.check_pieces(TEXT, spans, 1, wanted=ahead)

    def test_marks_of_two_pieces_are_two_lists(self):
        told = pieces_of(TEXT, [(0, 0), (8, 8)], 0)
        wanted = list(told[1][2])
        told[0][2].append((9, 9))
        self.assertEqual(told[1][2], wanted)

    def test_spans_are_changed_behind_the_call(self):
        spans = [(8, 8), (2, 3)]
        ahead = looked_pieces(TEXT, spans, 1, 3)
        told = pieces_of(TEXT, spans, 1)
        spans.append((5, 5))
        self.assertEqual(told, ahead)
        self.check_pieces(TEXT, spans, 1)
        spans.clear()
        self.assertEqual(told, ahead)
        self.check_pieces(TEXT, spans, 1, wanted=[])


if __name__ == "__main__":
    unittest.main()
