import fractions
import inspect
import itertools
import random
import unittest

from findhall.errors import BadNumber
from findhall.fractions import fraction
from findhall.ordering import Best, in_order
from handed import GREAT_NUMBER, RefusalCase, no_whole_numbers

GREAT = 10 ** 20
# Each is less than the next, by far less than numbers with a point can tell.
CLOSE = [(GREAT - 1, GREAT), (GREAT, GREAT + 1), (GREAT + 1, GREAT + 2), (1, 1), (GREAT + 2, GREAT + 1), (
    GREAT + 1, GREAT), (GREAT, GREAT - 1)]
SMALL = [("b", (1, 2)), ("a", (1, 2)), ("ab", (1, 3)), ("c", (2, 3)), ("", (1, 2)), ("b", (1, 3)), ("a", (0, 1))]
SMALL_IN_ORDER = [
    ("c", (2, 3)), ("", (1, 2)), ("a", (1, 2)), ("b", (1, 2)), ("ab", (1, 3)), ("b", (1, 3)), ("a", (0, 1)),
]


def looked_order(rows):
    """By Python's own fractions and its own putting in order, to be compared with the program."""
    return sorted(rows, key=lambda row: (-fractions.Fraction(*row[1]), row[0]))


def chance_rows(chance, many):
    keys = ("a", "b", "ab", "abc", "b0", "0", "z" * 12, "k1", "k10", "k2")
    return [
        (chance.choice(keys), fraction(chance.choice((0, 1, 2, 3, GREAT, GREAT + 1)), chance.choice((1, 2, 3, GREAT))))
        for turn in range(many)
    ]


class OrderCase(RefusalCase):
    def check_rows(self, told, wanted):
        self.check_list(told, wanted)
        for row in told:
            self.assertIs(type(row), tuple)
            self.assertIs(type(row[0]), str)
            self.assertIs(type(row[1]), tuple)

    def check_order(self, rows, wanted=None):
        handed = list(rows)
        told = in_order(handed)
        self.check_rows(told, looked_order(rows) if wanted is None else wanted)
        self.assertEqual(handed, list(rows))
        self.assertIsNot(told, handed)


class InOrderTest(OrderCase):
    def test_none_and_one(self):
        self.check_order([], [])
        self.check_order([("a", (1, 2))], [("a", (1, 2))])
        self.check_order([("", (0, 1))], [("", (0, 1))])

    def test_by_hand(self):
        self.check_order(SMALL, SMALL_IN_ORDER)
        self.check_order([("a", (1, 3)), ("b", (1, 2))], [("b", (1, 2)), ("a", (1, 3))])
        self.check_order([("b", (1, 2)), ("a", (1, 2))], [("a", (1, 2)), ("b", (1, 2))])

    def test_in_another_order_it_comes_out_the_same(self):
        for rows in itertools.permutations(SMALL):
            self.check_order(rows, SMALL_IN_ORDER)

    def test_the_same_row_twice(self):
        one, other = ("a", (1, 2)), ("b", (1, 2))
        self.check_order([one, one], [one, one])
        for rows in itertools.permutations([one, other, one, other, ("a", (1, 3)), one]):
            self.check_order(rows, [one, one, one, other, other, ("a", (1, 3))])

    def test_like_keys_with_unlike_worths(self):
        rows = [("a", (number, 7)) for number in (3, 1, 6, 2)] + [("a", (0, 1)), ("a", (5, 3))]
        for some in itertools.permutations(rows):
            self.check_order(some, [
                ("a", (5, 3)), ("a", (6, 7)), ("a", (3, 7)), ("a", (2, 7)), ("a", (1, 7)), ("a", (0, 1))])

    def test_keys_each_the_beginning_of_another_one(self):
        keys = ["", "a", "aa", "aaa", "aab", "ab", "b"]
        for some in itertools.permutations(keys):
            self.check_order([(key, (3, 4)) for key in some], [(key, (3, 4)) for key in keys])

    def test_figures_and_letters(self):
        keys = ["0", "10", "2", "9", "9a", "a", "a0", "a10", "a2", "aa", "z"]
        self.check_order([(key, (3, 4)) for key in reversed(keys)], [(key, (3, 4)) for key in keys])

    def test_any_texts(self):
        keys = ["", "\n", " ", " a", "A", "B", "a", "a b", "a" * 2000, "~"]
        self.check_order([(key, (1, 1)) for key in reversed(keys)], [(key, (1, 1)) for key in sorted(keys)])

    def test_worths_that_differ_only_by_products_of_great_numbers(self):
        wanted = [("k", worth) for worth in reversed(CLOSE)]
        for worths in itertools.permutations(CLOSE):
            self.check_order([("k", worth) for worth in worths], wanted)
        self.check_order([(key, worth) for key in ("b", "a") for worth in CLOSE])
        rows = [("a", fraction(3 ** 300, 2 ** 400)), ("b", fraction(3 ** 300 + 1, 2 ** 400)), ("c", (GREAT_NUMBER, 1))]
        self.check_order(rows, rows[::-1])

    def test_worths_below_nought(self):
        rows = [("a", (-1, 2)), ("b", (-1, 3)), ("c", (0, 1)), ("d", (1, 3))]
        self.check_order(rows, rows[::-1])

    def test_many_rows(self):
        chance = random.Random(14)
        for many in list(range(12)) + [100, 257, 700]:
            self.check_order(chance_rows(chance, many))
        self.check_order([("k" + str(number), (number, 1)) for number in range(2000)])

    def test_the_argument_has_its_name(self):
        self.assertEqual(in_order(rows=SMALL), SMALL_IN_ORDER)
        self.assertEqual(str(inspect.signature(in_order)), "(rows)")

    def test_a_row_put_in_behind_the_call(self):
        rows = list(SMALL)
        told = in_order(rows)
        rows.append(("zz", (9, 1)))
        rows.insert(0, ("zz", (-9, 1)))
        self.check_rows(told, SMALL_IN_ORDER)
        self.check_order(rows, [("zz", (9, 1))] + SMALL_IN_ORDER + [("zz", (-9, 1))])
        rows.clear()
        self.check_rows(told, SMALL_IN_ORDER)
        self.check_order(rows, [])

    def test_what_was_told_is_changed(self):
        rows = list(SMALL)
        told = in_order(rows)
        told.reverse()
        told.pop()
        self.assertEqual(rows, SMALL)
        self.check_order(rows, SMALL_IN_ORDER)
        told.clear()
        self.check_order(rows, SMALL_IN_ORDER)
        alone = [("a", (1, 2))]
        in_order(alone).append(("b", (1, 2)))
        self.assertEqual(alone, [("a", (1, 2))])


class BestTest(OrderCase):
    def check_offers(self, most, rows):
        """Behind each offer what is told is the first of all that was offered, in order."""
        best = Best(most)
        self.check_rows(best.told(), [])
        for many, (key, worth) in enumerate(rows, 1):
            self.assertIs(best.offer(key, worth), None)
            self.check_rows(best.told(), looked_order(rows[:many])[:most])
        self.check_rows(best.told(), looked_order(rows)[:most])

    def test_by_hand(self):
        best = Best(2)
        best.offer("b", (1, 2))
        self.check_rows(best.told(), [("b", (1, 2))])
        best.offer("c", (1, 3))
        self.check_rows(best.told(), [("b", (1, 2)), ("c", (1, 3))])
        best.offer("a", (1, 2))
        self.check_rows(best.told(), [("a", (1, 2)), ("b", (1, 2))])
        best.offer("d", (1, 3))
        self.check_rows(best.told(), [("a", (1, 2)), ("b", (1, 2))])
        best.offer("z", (2, 3))
        self.check_rows(best.told(), [("z", (2, 3)), ("a", (1, 2))])

    def test_most_left_out(self):
        rows = [("k" + str(number), (number * 7 % 13, 5)) for number in range(25)]
        best = Best()
        for many, (key, worth) in enumerate(rows, 1):
            best.offer(key, worth)
            self.check_rows(best.told(), looked_order(rows[:many])[:10])
        self.assertEqual(len(best.told()), 10)

    def test_fewer_as_many_and_more_than_are_offered(self):
        for most in (0, 1, 2, 3, 6, 7, 8, 50, GREAT, GREAT_NUMBER):
            self.check_offers(most, SMALL)
            self.check_offers(most, SMALL_IN_ORDER)
            self.check_offers(most, SMALL_IN_ORDER[::-1])
            self.check_offers(most, [])

    def test_offered_in_any_order(self):
        for rows in itertools.permutations(SMALL[:6]):
            for most in (1, 3, 5):
                best = Best(most)
                for key, worth in rows:
                    best.offer(key, worth)
                self.check_rows(best.told(), looked_order(SMALL[:6])[:most])

    def test_the_same_row_twice(self):
        one, other = ("a", (1, 2)), ("b", (1, 2))
        for most in (0, 1, 2, 3, 4, 9):
            for rows in itertools.permutations([one, one, other, other, ("c", (2, 3))]):
                self.check_offers(most, rows)

    def test_like_worths(self):
        for keys in itertools.permutations(["", "a", "aa", "ab", "b"]):
            self.check_offers(3, [(key, (3, 4)) for key in keys])

    def test_worths_that_differ_only_by_products_of_great_numbers(self):
        for worths in itertools.permutations(CLOSE[:5]):
            self.check_offers(3, [("k", worth) for worth in worths])

    def test_many_chances(self):
        chance = random.Random(15)
        for turn in range(60):
            self.check_offers(chance.choice((0, 1, 2, 5, 10, 30)), chance_rows(chance, chance.randrange(25)))

    def test_two_side_by_side(self):
        one, other, third = Best(2), Best(2), Best()
        for at, (key, worth) in enumerate(SMALL):
            (one if at < 3 else other).offer(key, worth)
        self.check_rows(one.told(), looked_order(SMALL[:3])[:2])
        self.check_rows(other.told(), looked_order(SMALL[3:])[:2])
        self.check_rows(third.told(), [])
        self.check_rows(Best().told(), [])

    def test_lists_told_are_changed(self):
        best = Best(3)
        for many, (key, worth) in enumerate(SMALL, 1):
            best.offer(key, worth)
            told = best.told()
            told.append(("zz", (9, 1)))
            told.reverse()
            self.check_rows(best.told(), looked_order(SMALL[:many])[:3])
            told.clear()
            self.check_rows(best.told(), looked_order(SMALL[:many])[:3])

    def test_what_was_told_stays(self):
        best = Best(2)
        told = []
        for key, worth in SMALL:
            best.offer(key, worth)
            told.append(best.told())
        for many, rows in enumerate(told, 1):
            self.check_rows(rows, looked_order(SMALL[:many])[:2])

    def test_a_most_that_is_none(self):
        for most in no_whole_numbers() + [-1, -2, -GREAT, -GREAT_NUMBER]:
            self.check_refused(BadNumber, Best, most)
        self.check_offers(1, SMALL)

    def test_the_arguments_have_their_names(self):
        best = Best(most=1)
        best.offer(key="a", worth=(1, 2))
        self.check_rows(best.told(), [("a", (1, 2))])
        self.assertEqual(str(inspect.signature(Best)), "(most=10)")
        self.assertEqual(str(inspect.signature(Best.offer)), "(self, key, worth)")
        self.assertEqual(str(inspect.signature(Best.told)), "(self)")


if __name__ == "__main__":
    unittest.main()
