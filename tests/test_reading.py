import functools
import random
import re
import unittest

from findhall.asks import Ask
from findhall.errors import BadText, NoAsk
from findhall.reading import read_ask
from handed import RefusalCase, balanced, chance_told, deep_of, in_nots, many_of, no_strs

A, B, C, D = ("word", "a"), ("word", "b"), ("word", "c"), ("word", "d")

# What follows reads lines by other ways than the program's own, to be compared with it: the pieces by a pattern, which
# of them may stand where by all ways that a grammar leaves, the question by what joins last.
PIECE = re.compile(
    r'(?P<start>[A-Za-z0-9]+)\*|(?P<word>[A-Za-z0-9]+)|(?P<bracket>[()])'
    r'|~(?P<far>20|1[0-9]|[0-9])(?![A-Za-z0-9])|"(?P<row> *[A-Za-z0-9]+(?: +[A-Za-z0-9]+){0,7} *)"')
GRAMMAR = {
    "either": [("both",), ("either", "or", "both")],
    "both": [("one",), ("both", "and", "one"), ("both", "one")],
    "one": [("not", "one"), ("LEAF",), ("LEAF", "FAR", "LEAF"), ("(", "either", ")")],
}


def looked_pieces(line):
    """The pieces up to the first sign that begins none, as (kind, value, place), and that sign's place or None."""
    pieces, place = [], 0
    while line[place:].strip(" "):
        place += len(line[place:]) - len(line[place:].lstrip(" "))
        found = PIECE.match(line, place)
        if not found:
            return pieces, place
        kind, value = found.lastgroup, found.group(found.lastgroup).lower()
        if kind == "bracket" or (kind == "word" and value in ("and", "or", "not")):
            pieces.append((value, None, place))
        elif kind == "far":
            pieces.append(("FAR", int(value), place))
        elif kind == "row":
            words = tuple(value.split())
            pieces.append(("LEAF", ("row", words) if len(words) > 1 else ("word", words[0]), place))
        else:
            pieces.append(("LEAF", (kind, value), place))
        place = found.end()
    return pieces, None


@functools.lru_cache(maxsize=None)
def ways_behind(kinds):
    """All ways (name, form, how much of it is read, where it began) in which so many pieces may begin a line."""
    if kinds:
        last = [way for way in ways_behind(kinds[:-1]) if way[1][way[2]:way[2] + 1] == kinds[-1:]]
        ways = [(name, form, read + 1, begun) for name, form, read, begun in last]
    else:
        ways = [("either", form, 0, 0) for form in GRAMMAR["either"]]
    for name, form, read, begun in ways:
        if read == len(form):
            more = [
                (outer, whole, done + 1, at) for outer, whole, done, at in ways_behind_so_far(kinds, begun, ways)
                if whole[done:done + 1] == (name,)
            ]
        else:
            more = [(form[read], within, 0, len(kinds)) for within in GRAMMAR.get(form[read], [])]
        ways += [way for way in more if way not in ways]
    return tuple(ways)


def ways_behind_so_far(kinds, begun, ways):
    return list(ways) if begun == len(kinds) else ways_behind(kinds[:begun])


def may_end(kinds):
    return any(name == "either" and read == len(form) and begun == 0 for name, form, read, begun in ways_behind(kinds))


def outer_places(pieces):
    """The places of all pieces that stand in no bracket."""
    open_ones, places = 0, []
    for place, piece in enumerate(pieces):
        if piece[0] == "(" and open_ones == 0:
            places.append(place)
        open_ones += (piece[0] == "(") - (piece[0] == ")")
        if open_ones == 0 and piece[0] not in "()":
            places.append(place)
    return places


def looked_told(pieces):
    """What is asked by pieces that ask something."""
    outer = outer_places(pieces)
    for place in reversed(outer):
        if pieces[place][0] == "or":
            return ("either", looked_told(pieces[:place]), looked_told(pieces[place + 1:]))
    for place in reversed(outer):
        if pieces[place][0] == "and":
            return ("both", looked_told(pieces[:place]), looked_told(pieces[place + 1:]))
        if place > 0 and pieces[place][0] in ("LEAF", "not", "(") and pieces[place - 1][0] in ("LEAF", ")"):
            return ("both", looked_told(pieces[:place]), looked_told(pieces[place:]))
    if pieces[0][0] == "not":
        return ("not", looked_told(pieces[1:]))
    if pieces[0][0] == "(":
        return looked_told(pieces[1:-1])
    return pieces[0][1] if len(pieces) == 1 else ("near", pieces[0][1], pieces[2][1], pieces[1][1])


def looked_read(line):
    """The told question that the line asks, or the place where it asks none."""
    pieces, wrong = looked_pieces(line)
    kinds = tuple(kind for kind, value, place in pieces)
    for many in range(1, len(kinds) + 1):
        if not ways_behind(kinds[:many]) or kinds[:many].count("(") - kinds[:many].count(")") > 12:
            return pieces[many - 1][2]
    if wrong is not None:
        return wrong
    if not may_end(kinds):
        return len(line)
    told = looked_told(pieces)
    return len(line) if deep_of(told) > 8 or many_of(told) > 40 else told


def loose_leaf(told, blank):
    if told[0] == "row":
        return '"' + blank.join(told[1]) + '"'
    if told[0] == "start":
        return told[1] + "*"
    return '"' + told[1] + '"' if told[1] in ("and", "or", "not") else told[1].upper()


def loosely(chance, told, binds):
    """A line that asks it, with needless brackets and blanks; in brackets where it binds less than asked for."""
    name, blank, own = told[0], chance.choice((" ", " ", "  ")), 3
    if name == "near":
        line = loose_leaf(told[1], blank) + chance.choice(("", blank)) + "~" + str(told[3]) + blank
        line += loose_leaf(told[2], blank)
    elif name == "not":
        line, own = "not" + blank + loosely(chance, told[1], 2), 2
    elif name == "both":
        joining = blank + chance.choice(("and" + blank, ""))
        line, own = loosely(chance, told[1], 1) + joining + loosely(chance, told[2], 2), 1
    elif name == "either":
        line, own = loosely(chance, told[1], 0) + blank + "or " + loosely(chance, told[2], 1), 0
    else:
        line = loose_leaf(told, blank)
    return "(" + line + chance.choice(("", blank)) + ")" if own < binds or chance.randrange(6) == 0 else line


class ReadingCase(RefusalCase):
    def check_read(self, line, told):
        ask = read_ask(line)
        self.assertIsInstance(ask, Ask)
        self.assertEqual(ask.told(), told, line)

    def check_no_ask(self, line, at):
        with self.assertRaises(NoAsk) as caught:
            read_ask(line)
        self.assertIs(type(caught.exception), NoAsk)
        self.assertIsInstance(caught.exception, ValueError)
        self.assertIs(type(caught.exception.at), int)
        self.assertEqual(caught.exception.at, at, line)

    def check_looked(self, line):
        wanted = looked_read(line)
        if isinstance(wanted, tuple):
            self.check_read(line, wanted)
        else:
            self.check_no_ask(line, wanted)
        return isinstance(wanted, tuple)


class PiecesTest(ReadingCase):
    def test_words(self):
        for line, word in (
            ("a", "a"), ("cat", "cat"), ("Cat", "cat"), ("CAT9", "cat9"), ("0", "0"), ("42", "42"), ("9a", "9a"),
            ("android", "android"), ("nota", "nota"), ("or9", "or9"),
            ("x" * 2000, "x" * 2000), ("Q" * 2000, "q" * 2000),
        ):
            self.check_read(line, ("word", word))

    def test_starts(self):
        for line, word in (
            ("a*", "a"), ("Cat*", "cat"), ("9*", "9"), ("and*", "and"), ("or*", "or"), ("not*", "not"), ("AND*", "and"),
            ("x" * 1999 + "*", "x" * 1999),
        ):
            self.check_read(line, ("start", word))
        self.check_read("a*b", ("both", ("start", "a"), B))
        self.check_read("a*b*", ("both", ("start", "a"), ("start", "b")))
        self.check_read("not not*", ("not", ("start", "not")))

    def test_stars_that_begin_no_piece(self):
        self.check_no_ask("*", 0)
        self.check_no_ask("*a", 0)
        self.check_no_ask("a *", 2)
        self.check_no_ask("a**", 2)
        self.check_no_ask("and *", 0)
        self.check_no_ask("a and *", 6)
        self.check_no_ask('"a"*', 3)
        self.check_no_ask("(a)*", 3)

    def test_rows(self):
        for line, words in (
            ('"a b"', ("a", "b")), ('"A bC 9"', ("a", "bc", "9")), ('" a  b "', ("a", "b")),
            ('"or not"', ("or", "not")),
            ('"and and"', ("and", "and")), ('"a b c d e f g h"', tuple("abcdefgh")),
            ('"   a    b c   d e f g   h  "', tuple("abcdefgh")),
        ):
            self.check_read(line, ("row", words))

    def test_marks_with_one_word(self):
        for line, word in (
            ('"a"', "a"), ('"And"', "and"), ('"and"', "and"), ('"or"', "or"), ('"not"', "not"), ('"  NOT "', "not"),
            ('"x9"', "x9"), ('"' + "x" * 1998 + '"', "x" * 1998),
        ):
            self.check_read(line, ("word", word))

    def test_marks_that_begin_no_piece(self):
        for marks in (
            '""', '" "', '"    "', '"a b c d e f g h i"', '"a', '"', '"a b', '"a-b"', '"a*"', '"a\nb"',
            '"(a)"', '"a ~3 b"', '"a,b"', '"!"', '"a.',
        ):
            self.check_no_ask(marks, 0)
            self.check_no_ask("a " + marks, 2)
            self.check_no_ask("a~3" + marks, 3)
            self.check_no_ask("(" + marks + ")", 1)
            self.check_no_ask("not  " + marks, 5)
        self.check_no_ask('"a" "', 4)
        self.check_no_ask('"a" b"', 5)
        self.check_no_ask('"a""', 3)

    def test_fars(self):
        for far in range(21):
            self.check_read("a ~" + str(far) + " b", ("near", A, B, far))
            self.check_read("a~" + str(far) + " b", ("near", A, B, far))
            self.check_read("a~" + str(far) + '"b"', ("near", A, B, far))

    def test_fars_that_begin_no_piece(self):
        for far in (
            "~21", "~22", "~99", "~100", "~03", "~00", "~020", "~3b", "~b", "~b3", "~", "~ 3", "~-1", "~+3", "~3B",
            "~20x", "~~3", "~*", '~"3"', "~(3)", "~\n3", "~" + "2" * 40, "~" + "2" * 1500,
        ):
            self.check_no_ask("a " + far + " b", 2)
            self.check_no_ask("a" + far + " b", 1)
            self.check_no_ask(far, 0)
            self.check_no_ask("a " + far, 2)

    def test_signs_that_begin_no_piece(self):
        for number in range(32, 127):
            sign = chr(number)
            if sign not in ' ()~"%' and not sign.isalnum():
                self.check_no_ask(sign, 0)
                self.check_no_ask("  " + sign, 2)
                if sign != "*":
                    self.check_no_ask("a" + sign, 1)
                self.check_no_ask("a " + sign + " b", 2)
                self.check_no_ask("(a or b" + " " + sign, 8)
                self.check_no_ask("(" + sign, 1)
                self.check_no_ask("a ~3 " + sign, 5)

    def test_a_line_feed_begins_no_piece(self):
        self.check_no_ask("\n", 0)
        self.check_no_ask("\na", 0)
        self.check_no_ask("a\n", 1)
        self.check_no_ask("a \nb", 2)
        self.check_no_ask("  \n  ", 2)
        self.check_no_ask("(\na)", 1)

    def test_no_blank_between_pieces(self):
        self.check_read("(a)(b)", ("both", A, B))
        self.check_read('a"b"c', ("both", ("both", A, B), C))
        self.check_read('"a""b"', ("both", A, B))
        self.check_read("a(b)c", ("both", ("both", A, B), C))
        self.check_read("not(a)", ("not", A))
        self.check_read('not"a"', ("not", A))
        self.check_read('(a)or(b)and"c"', ("either", A, ("both", B, C)))
        self.check_read('"a b"~3 c*', ("near", ("row", ("a", "b")), ("start", "c"), 3))
        self.check_no_ask('"a b"~3c*', 5)
        self.check_no_ask("a*~0(b)", 4)

    def test_several_blanks(self):
        for blanks in (" ", "  ", "       "):
            self.check_read(blanks + "a", A)
            self.check_read("a" + blanks, A)
            self.check_read(blanks + "a" + blanks + "b" + blanks, ("both", A, B))
            self.check_read("(" + blanks + "a" + blanks + ")" + blanks, A)
            self.check_read("a" + blanks + "~3" + blanks + "b", ("near", A, B, 3))
            self.check_read("not" + blanks + "a", ("not", A))
            self.check_read("a" + blanks + "or" + blanks + "b", ("either", A, B))
        self.check_read("a" + " " * 1998 + "b", ("both", A, B))

    def test_great_letters_are_told_small(self):
        self.check_read("A AND B OR NOT C", ("either", ("both", A, B), ("not", C)))
        self.check_read('"And" And "OR Not"', ("both", ("word", "and"), ("row", ("or", "not"))))
        self.check_read("nOt AbC*", ("not", ("start", "abc")))


class BindingTest(ReadingCase):
    def test_joined_by_and_or_nothing(self):
        for line in ("a and b", "a b", "(a) b", "a (b)", "(a and b)", "((a) (b))"):
            self.check_read(line, ("both", A, B))

    def test_joined_by_or(self):
        for line in ("a or b", "(a) or b", "a or (b)", "(a or b)"):
            self.check_read(line, ("either", A, B))

    def test_several_are_led_from_the_left(self):
        three = ("both", ("both", A, B), C)
        for line in ("a b c", "a and b c", "a b and c", "a and b and c", "(a b) c"):
            self.check_read(line, three)
        self.check_read("a b c d", ("both", three, D))
        self.check_read("a or b or c", ("either", ("either", A, B), C))
        self.check_read("a or b or c or d", ("either", ("either", ("either", A, B), C), D))
        self.check_read("a (b c)", ("both", A, ("both", B, C)))
        self.check_read("a or (b or c)", ("either", A, ("either", B, C)))

    def test_what_binds_closer(self):
        self.check_read("a or b and c", ("either", A, ("both", B, C)))
        self.check_read("a or b c", ("either", A, ("both", B, C)))
        self.check_read("a and b or c", ("either", ("both", A, B), C))
        self.check_read("a b or c d", ("either", ("both", A, B), ("both", C, D)))
        self.check_read("a or b c or d", ("either", ("either", A, ("both", B, C)), D))
        self.check_read("(a or b) c", ("both", ("either", A, B), C))
        self.check_read("a and (b or c)", ("both", A, ("either", B, C)))
        self.check_read("not a b", ("both", ("not", A), B))
        self.check_read("not a and b", ("both", ("not", A), B))
        self.check_read("not a or b", ("either", ("not", A), B))
        self.check_read("a not b", ("both", A, ("not", B)))
        self.check_read("a or not b c", ("either", A, ("both", ("not", B), C)))
        self.check_read("not (a b)", ("not", ("both", A, B)))
        self.check_read("not (a or b) c", ("both", ("not", ("either", A, B)), C))
        self.check_read("not not a", ("not", ("not", A)))
        self.check_read("not not a not b", ("both", ("not", ("not", A)), ("not", B)))
        self.check_read("not (not (a))", ("not", ("not", A)))

    def test_near_binds_closest(self):
        near = ("near", A, B, 3)
        self.check_read("a ~3 b", near)
        self.check_read("not a ~3 b", ("not", near))
        self.check_read("a ~3 b c", ("both", near, C))
        self.check_read("c a ~3 b", ("both", C, near))
        self.check_read("a ~3 b or c", ("either", near, C))
        self.check_read("c or a ~3 b", ("either", C, near))
        self.check_read("(a ~3 b)", near)
        self.check_read("a ~3 b c ~0 d", ("both", near, ("near", C, D, 0)))
        self.check_read("a ~3 b (c)", ("both", near, C))
        self.check_read("a ~3 b not c", ("both", near, ("not", C)))
        self.check_read('"a b" ~20 c*', ("near", ("row", ("a", "b")), ("start", "c"), 20))
        self.check_read('"and" ~1 "or not"', ("near", ("word", "and"), ("row", ("or", "not")), 1))

    def test_near_of_what_stands_near_nothing(self):
        self.check_no_ask("a ~1 b ~2 c", 7)
        self.check_no_ask("a~1 b~2 c", 5)
        self.check_no_ask("~1 a", 0)
        self.check_no_ask("a ~1", 4)
        self.check_no_ask("a ~1  ", 6)
        self.check_no_ask("a ~1 ~1 b", 5)
        self.check_no_ask("a ~1 (b)", 5)
        self.check_no_ask("(a) ~1 b", 4)
        self.check_no_ask("a ~1 not b", 5)
        self.check_no_ask("a ~1 and b", 5)
        self.check_no_ask("a ~1 or b", 5)
        self.check_no_ask("(a ~1)", 5)
        self.check_no_ask("a and ~1 b", 6)
        self.check_no_ask("not ~1 b", 4)
        self.check_no_ask("(~1 b)", 1)


class BracketsTest(ReadingCase):
    def test_twelve_are_open(self):
        for many in range(13):
            self.check_read("(" * many + "a" + ")" * many, A)
            self.check_read("( " * many + "a" + " )" * many, A)
        self.check_read("(" * 12 + "a" + ")" * 12 + "(" * 12 + "b" + ")" * 12, ("both", A, B))
        self.check_read("(a) " * 8, self.led([A] * 8))
        self.check_read("(" * 11 + "a (b)" + ")" * 11, ("both", A, B))

    def led(self, told):
        return functools.reduce(lambda one, other: ("both", one, other), told)

    def test_the_thirteenth_can_t_stand_there(self):
        self.check_no_ask("(" * 13 + "a" + ")" * 13, 12)
        self.check_no_ask("(" * 13, 12)
        self.check_no_ask("(" * 900, 12)
        self.check_no_ask("( " * 13 + "a", 24)
        self.check_no_ask("(" * 12 + "a (b)" + ")" * 12, 14)
        self.check_no_ask("(" * 12 + "a" + ")" * 12 + " " + "(" * 13 + "b" + ")" * 13, 38)
        self.check_no_ask("(" * 11 + "(a) ((b))" + ")" * 11, 16)

    def test_brackets_are_no_questions(self):
        self.check_read("not not not not not not not " + "(" * 12 + "a" + ")" * 12, in_nots(A, 7))
        self.check_read("not (" * 7 + "a" + ")" * 7, in_nots(A, 7))

    def test_brackets_that_can_t_stand_there(self):
        self.check_no_ask(")", 0)
        self.check_no_ask("a)", 1)
        self.check_no_ask("a )", 2)
        self.check_no_ask("()", 1)
        self.check_no_ask("( )", 2)
        self.check_no_ask("a ()", 3)
        self.check_no_ask("(a))", 3)
        self.check_no_ask("(a)) b", 3)
        self.check_no_ask("(a and)", 6)
        self.check_no_ask("(a or )", 6)
        self.check_no_ask("(not)", 4)

    def test_brackets_that_are_not_closed(self):
        for line in ("(", "(a", "(a ", "((a)", "(a or b", "a (", "a (b", "not (", "(" * 12 + "a", "(a ~3 b"):
            self.check_no_ask(line, len(line))


class RefusedTest(ReadingCase):
    def test_empty_lines(self):
        for many in (0, 1, 2, 5, 2000):
            self.check_no_ask(" " * many, many)

    def test_more_would_have_to_come(self):
        for line in (
            "not", "a and", "a or", "not not", "a not", "a b and", "a or not", "a or b and", "a ~3", "a ~3 ",
            "and* and ", "(a) or", "a and not ", '"a b" ~0', '"and" and', "a or (b and c) or  ",
        ):
            self.check_no_ask(line, len(line))

    def test_pieces_that_can_t_stand_there(self):
        for line, at in (
            ("and", 0), ("or", 0), ("and a", 0), ("OR a", 0), ("  or a", 2), ("a and and b", 6), ("a and or b", 6),
            ("a or and b", 5), ("a or or b", 5), ("not and a", 4), ("not or a", 4), ("a not and b", 6), ("(and a)", 1),
            ("(or", 1), ("a (or b)", 3), ("~3", 0), ("~3 a ~3", 0), ("a and ~3", 6), ("a or b) c", 6),
        ):
            self.check_no_ask(line, at)

    def test_the_first_from_the_left(self):
        for line, at in (
            ("or ?", 0), ("? or", 0), ("a ) ?", 2), ("a ? )", 2), ("a and or (", 6), ("a ~21 )", 2), ("a ) ~21", 2),
            ('or "', 0), ('a "b or', 2), ("(a ?", 3), ("(a or", 5), ("((((((((((((( ?", 12), ("(((((((((((( ?", 13),
            ("a ~1 b ~2 ?", 7), ("a ~1 b ? ~2", 7), ("a\n)", 1), ("a )\n", 2), ("not not or not", 8),
        ):
            self.check_no_ask(line, at)

    def test_a_wrong_piece_comes_ahead_of_what_is_too_deep_or_great(self):
        self.check_no_ask("not " * 20 + "a )", 82)
        self.check_no_ask("not " * 20 + "a ?", 82)
        self.check_no_ask("not " * 20 + "or", 80)
        self.check_no_ask("a " * 100 + "?", 200)
        self.check_no_ask("a " * 100 + ") b", 200)
        self.check_no_ask("a " * 100 + "and", 203)

    def test_hundreds_of_nots(self):
        for many in (8, 9, 100, 300, 499):
            line = "not " * many + "a"
            self.check_no_ask(line, len(line))
            self.check_no_ask(line + "  ", len(line) + 2)
            self.check_no_ask("not " * many, len("not " * many))
        self.check_no_ask("not " * 400 + "( " * 13, 1600 + 24)
        self.check_no_ask("not(" * 12 + "not " * 400 + "a" + ")" * 12, 48 + 1600 + 13)

    def test_nots_ahead_of_a_word(self):
        told = A
        for many in range(8):
            self.check_read("not " * many + "a", told)
            told = ("not", told)
        self.check_no_ask("not " * 8 + "a", 33)
        self.check_no_ask("not " * 7 + "a ~3 b", 34)
        self.check_read("not " * 6 + "a ~3 b", in_nots(("near", A, B, 3), 6))

    def test_long_chains(self):
        for joining in (" ", " and ", " or "):
            name = "either" if joining == " or " else "both"
            told = A
            for many in range(2, 9):
                told = (name, told, A)
                self.check_read(joining.join("a" * many), told)
            for many in (9, 10, 41, 100, 300):
                line = joining.join("a" * many)
                self.check_no_ask(line, len(line))
        self.check_no_ask("a " * 1000, 2000)

    def test_forty_in_all(self):
        def halved(many, joining):
            if many == 1:
                return "a"
            return "(" + halved((many + 1) // 2, joining) + joining + halved(many // 2, joining) + ")"

        for joining, name in ((" ", "both"), (" and ", "both"), (" or ", "either")):
            for many in (1, 2, 3, 19, 20):
                self.check_read(halved(many, joining), balanced(many, name))
            self.check_read("not " + halved(20, joining), ("not", balanced(20, name)))
            great = [halved(many, joining) for many in (21, 40, 128)] + ["not not " + halved(20, joining)]
            for line in great:
                self.check_no_ask(line, len(line))
                self.check_no_ask(line + " ", len(line) + 1)

    def test_what_is_no_text(self):
        for thing in no_strs() + ["\t", "a\tb", "a" * 2001, " " * 2001, "(" * 2001, "a\t)", ")\t", "a " * 1001]:
            self.check_refused(BadText, read_ask, thing)

    def test_a_list_handed_in_stays(self):
        line = ["a", "or", "b"]
        self.check_refused(BadText, read_ask, line)
        self.assertEqual(line, ["a", "or", "b"])

    def test_the_argument_has_its_name(self):
        self.assertEqual(read_ask(line="a").told(), A)


class LookedTest(ReadingCase):
    def check_from(self, kinds, line, most):
        """All lines that go on so, as long as a question may come of them, and one piece further."""
        counts = [1, self.check_looked(line)]
        if len(kinds) < most and ways_behind(kinds):
            for kind, piece in (
                ("LEAF", "abcdefgh"[len(kinds)]), ("FAR", "~2"), ("(", "("), (")", ")"), ("and", "and"), ("or", "or"),
                ("not", "not"),
            ):
                below = self.check_from(kinds + (kind,), (line + " " + piece).strip(" "), most)
                counts = [one + other for one, other in zip(counts, below)]
        return counts

    def test_all_short_lines(self):
        many, right = self.check_from((), "", 6)
        self.assertGreater(right, 300)
        self.assertGreater(many - right, 3000)

    def test_lines_of_chance_pieces(self):
        # The seed is fixed, so that each run reads the same lines.
        chance = random.Random(6)
        pieces = ["a", "b", "a", "B", "c*", "not*", '"a b"', '"OR"', "~0", "~20", "and", "or", "not"] + list("(())")
        blanks = (" ", " ", " ", "  ", "")
        right = 0
        for turn in range(3000):
            many = chance.randrange(1, 9)
            right += self.check_looked("".join(chance.choice(pieces) + chance.choice(blanks) for piece in range(many)))
        self.assertGreater(right, 200)

    def test_lines_of_chance_signs(self):
        chance = random.Random(8)
        for turn in range(6000):
            line = "".join(chance.choice('ab1or()~~"" *2 \nA?') for sign in range(chance.randrange(14)))
            self.check_looked(line)

    def test_questions_loosely_written_and_spoiled(self):
        chance = random.Random(9)
        right = 0
        for turn in range(250):
            told = chance_told(chance, ("a", "b9", "not", "or", "and"), chance.randrange(1, 8))
            line = loosely(chance, told, 0)
            if line.count("(") <= 12 and len(line) < 400:
                right += self.check_looked(line)
                if deep_of(told) <= 8 and many_of(told) <= 40:
                    self.check_read(line, told)
                place = chance.randrange(len(line))
                for sign in ("", " ", "(", ")", "?", "~3 ", '"', " or "):
                    self.check_looked(line[:place] + sign + line[place:])
                    self.check_looked(line[:place] + sign + line[place + 1:])
        self.assertGreater(right, 100)


class OwnTest(ReadingCase):
    def test_each_is_of_its_own(self):
        one, other = read_ask("a or b"), read_ask("a or b")
        self.assertIsNot(one, other)
        one.kids().clear()
        one.leaves().clear()
        self.assertEqual(other.told(), ("either", A, B))
        self.assertEqual(one.told(), ("either", A, B))

    def test_what_is_refused_changes_nothing(self):
        one = read_ask("a or b c")
        for line in ("(", ")", "not", "a ?", "not " * 300 + "a"):
            with self.assertRaises(NoAsk):
                read_ask(line)
            self.assertEqual(one.told(), ("either", A, ("both", B, C)))
            self.check_read("a", A)

    def test_what_is_read_asks(self):
        ask = read_ask('"the cat" ~1 sat or not dog*')
        self.assertEqual(ask.spans("the cat has sat".split()), [(0, 3)])
        self.assertIs(ask.holds("the cat has sat dogs".split()), True)
        self.assertIs(ask.holds("the dogs".split()), False)
        self.assertIs(ask.holds([]), True)


if __name__ == "__main__":
    unittest.main()
