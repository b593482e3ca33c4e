import inspect
import itertools
import random
import re
import unittest

from findhall.errors import BadSpan, BadText, NoLine
from findhall.pieces import pieces_of
from findhall.showing import read_shown, shown_line
from handed import (
    GREAT_NUMBER, RefusalCase, Thing, groups, looked_line, no_lists, no_strs, no_texts, no_whole_numbers,
)

# Brackets, strokes and line feeds stand ahead of words, within the text and behind.
TEXTS = [
    "a", "Ab9", " a ", "-a-", "[a]", "]a[", "\\a\\", "\na\n", "[[a]]", "a b", "a[b", "a]b", "a\\b", "a\nb", "a\\nb",
    "[a] [b]", "a b c", "\\[a\\]b\n\nC", "[a\\\nb[]c]", "a b c d", "a.b.c...d", "... a b ...", "a [b] c\nD\\ ",
    "[a][b][c][d]", "a \\b\\ [[c]] \n\nd", "a b c d e", " [a]\\b\nc - d ]E[ ",
]

# What a line of few signs looks like: words in marks and words in none, turn by turn, and other signs between them.
OTHER_SIGN = r"(?:\\[\[\]\\n]|[ -/:-@^-`{-~])"
SOME_WORDS = f"[A-Za-z0-9]+(?:{OTHER_SIGN}+[A-Za-z0-9]+)*"
MARK = rf"\[{SOME_WORDS}\]"
FORM = re.compile(
    rf"(?:\.\.\. )?(?:{SOME_WORDS}{OTHER_SIGN}+)?{MARK}(?:{OTHER_SIGN}+{SOME_WORDS}{OTHER_SIGN}+{MARK})*"
    rf"(?:{OTHER_SIGN}+{SOME_WORDS})?(?: \.\.\.)?")


def word_spans(text):
    return [match.span() for match in re.finditer("[A-Za-z0-9]+", text)]


def every_piece(text):
    """All pieces of a text, as tuples of the window, the marked places, and the piece itself."""
    words = word_spans(text)
    for begin, end in itertools.combinations_with_replacement(range(len(words)), 2):
        places = range(begin, end + 1)
        for many in range(1, len(places) + 1):
            for marked in itertools.combinations(places, many):
                marks = [(words[first][0], words[last][1]) for first, last in groups(marked)]
                yield (begin, end), set(marked), (words[begin][0], words[end][1], marks)


class ShowingCase(RefusalCase):
    def check_shown(self, text, window, marked, piece):
        line = shown_line(text, piece)
        self.assertIs(type(line), str)
        self.assertEqual(line, looked_line(text, window, marked))
        begin, end, marks = piece
        ahead, behind = window[0] > 0, window[1] + 1 < len(word_spans(text))
        self.check_read(line, ahead, text[begin:end], [(one - begin, other - begin) for one, other in marks], behind)

    def check_read(self, line, ahead, signs, marks, behind):
        told = read_shown(line)
        self.assertEqual(told, (ahead, signs, marks, behind))
        self.assertEqual([type(part) for part in told], [bool, str, list, bool])
        for mark in told[2]:
            self.assertIs(type(mark), tuple)
            self.assertEqual([type(place) for place in mark], [int, int])

    def check_all(self, text):
        for window, marked, piece in every_piece(text):
            self.check_shown(text, window, marked, piece)


class ShownTest(ShowingCase):
    def test_some_by_hand(self):
        text = "The [cat] sat\non a \\mat"
        for piece, wanted in (
            ((0, 3, [(0, 3)]), "[The] ..."),
            ((0, 23, [(0, 23)]), "[The \\[cat\\] sat\\non a \\\\mat]"),
            ((5, 8, [(5, 8)]), "... [cat] ..."),
            ((5, 13, [(5, 8)]), "... [cat]\\] sat ..."),
            ((5, 13, [(10, 13)]), "... cat\\] [sat] ..."),
            ((5, 13, [(5, 13)]), "... [cat\\] sat] ..."),
            ((10, 16, [(10, 16)]), "... [sat\\non] ..."),
            ((0, 16, [(0, 3), (10, 13)]), "[The] \\[cat\\] [sat]\\non ..."),
            ((10, 23, [(10, 13), (17, 18)]), "... [sat]\\non [a] \\\\mat"),
            ((20, 23, [(20, 23)]), "... [mat]"),
            ((17, 23, [(20, 23)]), "... a \\\\[mat]"),
        ):
            self.assertEqual(shown_line(text, piece), wanted)

    def test_every_piece_of_many_texts(self):
        for text in TEXTS:
            self.check_all(text)

    def test_every_piece_of_texts_by_chance(self):
        # The seed is fixed, so that each run shows the same.
        chance = random.Random(31)
        for turn in range(400):
            self.check_all("".join(chance.choice("aB9[]\\\nn .") for sign in range(chance.randrange(10))))

    def test_every_short_text(self):
        for many in range(5):
            for signs in itertools.product("a[]\\\n", repeat=many):
                self.check_all("".join(signs))

    def test_dots_just_where_a_word_stands(self):
        for ahead, behind in itertools.product(("", " ", ". ", "... ", "[", "\n\\", "] - "), repeat=2):
            text = ahead + "cat" + behind
            begin = len(ahead)
            self.assertEqual(shown_line(text, (begin, begin + 3, [(begin, begin + 3)])), "[cat]")
            text = "x " + text
            self.assertEqual(shown_line(text, (begin + 2, begin + 5, [(begin + 2, begin + 5)])), "... [cat]")
            text = text + " 9"
            self.assertEqual(shown_line(text, (begin + 2, begin + 5, [(begin + 2, begin + 5)])), "... [cat] ...")

    def test_the_pieces_by_spans(self):
        text = "one two, three [four] five six seven \\eight\\ nine\nten"
        shown = [shown_line(text, piece) for piece in pieces_of(text, [(1, 2), (8, 8)], 1)]
        self.assertEqual(shown, ["one [two, three] \\[four ...", "... eight\\\\ [nine]\\nten"])

    def test_the_longest_text(self):
        text = "a " * 999 + "[a"
        marks = [(place, place + 1) for place in range(0, 1997, 4)]
        line = shown_line(text, (0, 2000, marks))
        self.assertEqual(line, "[a] a " * 499 + "[a] \\[a")
        self.check_read(line, False, text, marks, False)
        text = "a" + "\n" * 1998 + "b"
        self.assertEqual(shown_line(text, (0, 2000, [(1999, 2000)])), "a" + "\\n" * 1998 + "[b]")
        self.assertEqual(shown_line("\\" * 1999 + "b", (1999, 2000, [(1999, 2000)])), "[b]")

    def test_the_arguments_have_their_names(self):
        self.assertEqual(shown_line(text="a b", piece=(0, 1, [(0, 1)])), "[a] ...")
        self.assertEqual(str(inspect.signature(shown_line)), "(text, piece)")
        self.assertEqual(read_shown(line="[a]"), (False, "a", [(0, 1)], False))
        self.assertEqual(str(inspect.signature(read_shown)), "(line)")

    def test_what_is_handed_in_stays(self):
        marks = [(0, 1), (4, 5)]
        line = shown_line("a b c", (0, 5, marks))
        self.assertEqual(marks, [(0, 1), (4, 5)])
        marks.pop()
        self.assertEqual(line, "[a] b [c]")
        self.assertEqual(shown_line("a b c", (0, 5, marks)), "[a] b c")

    def test_what_is_told_is_changed(self):
        first = read_shown("[a] b [c]")
        first[2].reverse()
        first[2].append(None)
        self.check_read("[a] b [c]", False, "a b c", [(0, 1), (4, 5)], False)


class NoPieceTest(ShowingCase):
    TEXT = "-a bc [d] e"

    def check_no_piece(self, piece, text=TEXT):
        self.check_refused(BadSpan, shown_line, text, piece)

    def test_what_is_no_text(self):
        for thing in no_texts():
            for piece in ((0, 1, [(0, 1)]), (0, 1, []), None, (), (5, 1, [(0, 9)]), Thing()):
                self.check_refused(BadText, shown_line, thing, piece)

    def test_what_is_no_tuple_of_three(self):
        for thing in no_strs() + ["", "abc", (1, 2), (1, 2, [(1, 2)], []), [1, 2, [(1, 2)]], (1,), ((1, 2, [(1, 2)]),)]:
            self.check_no_piece(thing)
            self.check_no_piece(thing, "")
        self.assertEqual(shown_line(self.TEXT, (1, 2, [(1, 2)])), "[a] ...")

    def test_begins_and_ends(self):
        begins, ends = [1, 3, 7, 10], [2, 5, 8, 11]
        for begin, end in itertools.product(range(-3, 14), repeat=2):
            right = begin in begins and end in ends and begin < end
            if right:
                self.assertEqual(read_shown(shown_line(self.TEXT, (begin, end, [(begin, end)])))[2], [(0, end - begin)])
            else:
                for marks in ([(begin, end)], [(1, 2)], [(3, 5)], []):
                    self.check_no_piece((begin, end, marks))
            if not right and 1 <= begin and end <= 11:
                self.check_no_piece((1, 11, [(begin, end)]))

    def test_what_is_no_number(self):
        for thing in no_whole_numbers() + [-1, GREAT_NUMBER, -GREAT_NUMBER]:
            for piece in (
                (thing, 2, [(1, 2)]), (1, thing, [(1, 2)]), (thing, thing, [(1, 2)]), (1, 11, [(thing, 2)]),
                (1, 11, [(1, thing)]), (1, 11, [(1, 2), (7, thing)]), (1, 11, [(1, 2), (thing, 8)]),
            ):
                self.check_no_piece(piece)

    def test_true_is_no_number(self):
        self.assertEqual(shown_line("-a b", (1, 2, [(1, 2)])), "[a] ...")
        self.assertEqual(shown_line("a b", (0, 1, [(0, 1)])), "[a] ...")
        for piece in ((True, 2, [(1, 2)]), (1, 2, [(True, 2)])):
            self.check_no_piece(piece, "-a b")
        for piece in (
            (False, 1, [(0, 1)]), (0, True, [(0, 1)]), (0, 1, [(False, 1)]), (0, 1, [(0, True)]), (0.0, 1, [(0, 1)]),
        ):
            self.check_no_piece(piece, "a b")

    def test_marks_that_are_none(self):
        for marks in no_lists() + [((1, 2),), (1, 2), "", {(1, 2): (1, 2)}, {(1, 2)}, iter([(1, 2)])]:
            self.check_no_piece((1, 11, marks))
        self.check_no_piece((1, 11, []))
        for mark in no_lists() + [
            [1, 2], (1,), (1, 2, 3), (1, 2, [(1, 2)]), "12", ((1, 2),), (2, 1), (1, 1), (2, 2), (1, 3),
        ]:
            self.check_no_piece((1, 11, [mark]))
            self.check_no_piece((1, 11, [(1, 2), mark]))
            self.check_no_piece((1, 11, [mark, (7, 8)]))

    def test_marks_one_to_another(self):
        words = [(1, 2), (3, 5), (7, 8), (10, 11)]
        spans = [(one, other) for one in range(4) for other in range(one, 4)]
        right = 0
        for many in (2, 3):
            for chosen in itertools.product(spans, repeat=many):
                marks = [(words[one][0], words[other][1]) for one, other in chosen]
                if all(chosen[at][1] + 1 < chosen[at + 1][0] for at in range(many - 1)):
                    right += 1
                    self.assertEqual(read_shown(shown_line(self.TEXT, (1, 11, marks)))[2], [
                        (one - 1, other - 1) for one, other in marks])
                else:
                    self.check_no_piece((1, 11, marks))
        self.assertEqual(right, 5)

    def test_marks_outside_the_piece(self):
        words = [(1, 2), (3, 5), (7, 8), (10, 11)]
        spans = [(one, other) for one in range(4) for other in range(one, 4)]
        for window, mark in itertools.product(spans, repeat=2):
            piece = (words[window[0]][0], words[window[1]][1], [(words[mark[0]][0], words[mark[1]][1])])
            if window[0] <= mark[0] and mark[1] <= window[1]:
                self.assertIn("[", shown_line(self.TEXT, piece))
            else:
                self.check_no_piece(piece)

    def test_a_text_without_words_has_no_piece(self):
        for text in ("", " ", "[]", "\n"):
            for piece in ((0, 0, [(0, 0)]), (0, 1, [(0, 1)]), (0, 0, []), (0, len(text), [(0, len(text))])):
                self.check_no_piece(piece, text)


class ReadTest(ShowingCase):
    def check_no_line(self, line):
        self.check_refused(NoLine, read_shown, line)

    def test_some_by_hand(self):
        for line, wanted in (
            ("[a]", (False, "a", [(0, 1)], False)),
            ("... [a]", (True, "a", [(0, 1)], False)),
            ("[a] ...", (False, "a", [(0, 1)], True)),
            ("... [a] ...", (True, "a", [(0, 1)], True)),
            ("a... [b] ...c", (False, "a... b ...c", [(5, 6)], False)),
            ("... a ... [b] ... c ...", (True, "a ... b ... c", [(6, 7)], True)),
            ("[The \\[cat]\\] b [c\\nd]", (False, "The [cat] b c\nd", [(0, 8), (12, 15)], False)),
            ("x\\\\n\\\\\\\\[y]", (False, "x\\n\\\\y", [(5, 6)], False)),
        ):
            self.check_read(line, *wanted)

    def test_what_is_no_line(self):
        for thing in no_strs():
            self.check_no_line(thing)
        for line in (
            "", " ", "a", "a b", "... a", "a ...", "... a ...", "...", "... ", " ...", "... ...", "...  ...", "\\[a\\]",
            "[a", "a]", "[a b", "a b]", "[a]]", "[[a]]", "[[a]", "]a[", "[a] b]", "[a [b] c]", "[a] [b", "[a b [c]",
            "]", "[", "[]", "[]a", "a[]", "a[]b", "[] [a]", "[ ]", "[-]", "[a]\\", "\\[a]", "[a\\]", "[a\\b]",
            "a\\ [b]", "[a]\\\\\\b", "a\\N[b]", "a\\t[b]", "[a\nb]", "a\n[b]", "[a]\n", "\n[a]", "a\\\n[b]", "[a\tb]",
            "[a]\t", "a\t[b]", " [a]", "[a] ", "-[a]", "[a]-", "[ a]", "[a ]", "[-a] b", "a [b-] c", "[a-]", "a[b]",
            "[a]b", "ab [c]d", "a[b c] d", "[a][b]", "[a] [b]", "[a]\\n[b]", "[a]-[b] c", "a [b] [c] d", "...[a]",
            "[a]...", ".. [a]", "[a] ..", ".... [a]", "[a] ....", "...  [a]", "[a]  ...", "... ... [a]", "[a] ... ...",
            "... -[a]", "[a]- ...", "\\n[a]", "[a]\\n", "... \\[[a]", "[a\\]] ...", "[a]\\] ...",
        ):
            self.check_no_line(line)

    def test_every_short_line(self):
        """Of all short lines just those are read that some piece is shown as."""
        signs = "a[]\\n-\n"
        shown = {}
        for many in range(4):
            for text in itertools.product("a[]\\n-\n", repeat=many):
                text = "".join(text)
                size = len(word_spans(text))
                for window, marked, piece in every_piece(text):
                    if window == (0, size - 1) and piece[:2] == (0, len(text)):
                        shown[looked_line(text, window, marked)] = text, piece[2]
        for many in range(6):
            for line in itertools.product(signs, repeat=many):
                line = "".join(line)
                for ahead, behind in itertools.product((False, True), repeat=2):
                    whole = "... " * ahead + line + " ..." * behind
                    if line in shown:
                        self.check_read(whole, ahead, shown[line][0], shown[line][1], behind)
                    else:
                        self.check_no_line(whole)

    def test_lines_with_a_sign_changed(self):
        chance = random.Random(32)
        read = {True: 0, False: 0}
        for line in ("... [a\\[b] c\\\\\\n[d] e ...", "[a]-b.[c]", "... [ab \\n\\n9]", "a, [b] ..."):
            self.assertTrue(FORM.fullmatch(line))
            for place in range(len(line) + 1):
                for sign in ["", "a", "[", "]", "\\", "n", " ", ".", "\n", "\t"]:
                    for changed in (line[:place] + sign + line[place + 1:], line[:place] + sign + line[place:]):
                        read[self.check_by_form(changed)] += 1
            for turn in range(2000):
                changed = list(line)
                for times in range(chance.choice((2, 3, 4))):
                    changed[chance.randrange(len(changed))] = chance.choice(["", "a", "[", "]", "\\", "n", " ", "]-b"])
                read[self.check_by_form("".join(changed))] += 1
        self.assertGreater(min(read.values()), 300)

    def check_by_form(self, line):
        """Just what has the form of a line is read, and what is read is shown so, by a look at each sign."""
        if not FORM.fullmatch(line):
            self.check_no_line(line)
            return False
        ahead, signs, marks, behind = read_shown(line)
        text = "x " * ahead + signs + " x" * behind
        words = word_spans(text)
        marked = {
            place for place, word in enumerate(words)
            if any(begin + 2 * ahead <= word[0] and word[1] <= end + 2 * ahead for begin, end in marks)
        }
        self.assertEqual(looked_line(text, (ahead, len(words) - 1 - behind), marked), line)
        return True

    def test_as_many_signs_as_may_be(self):
        for ahead, behind in itertools.product((False, True), repeat=2):
            most = 2000 - 2 * ahead - 2 * behind
            for signs in ("a" * most, "a " * (most // 2 - 1) + "bc", "a" + "\\" * (most - 2) + "b"):
                mark = (len(signs) - 1, len(signs)) if "\\" in signs else (0, len(signs))
                shown = signs.replace("\\", "\\\\")
                shown = shown[:-1] + "[b]" if "\\" in signs else "[" + shown + "]"
                line = "... " * ahead + shown + " ..." * behind
                self.check_read(line, ahead, signs, [mark], behind)
                text = "x " * ahead + signs + " x" * behind
                begin = 2 * ahead
                piece = (begin, begin + most, [(begin + mark[0], begin + mark[1])])
                self.assertEqual(len(text), 2000)
                self.assertEqual(shown_line(text, piece), line)
            for more in (1, 2, 3, 5, 2000):
                self.check_no_line("... " * ahead + "[" + "a" * (most + more) + "]" + " ..." * behind)
                self.check_no_line("... " * ahead + "[a]" + "\\n" * (most + more - 2) + "a" + " ..." * behind)

    def test_very_long_lines(self):
        for line in ("[a]" * 50000, "[a " * 50000, "\\\\" * 50000, "[a] b " * 50000 + "c", "... " * 50000 + "[a]"):
            self.check_no_line(line)


if __name__ == "__main__":
    unittest.main()
