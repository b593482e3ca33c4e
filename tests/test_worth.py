import fractions
import inspect
import itertools
import math
import random
import unittest

from findhall.asks import Both, Either, Near, Not, Row, Start, Word
from findhall.books import Book
from findhall.errors import BadNumber
from findhall.finding import counted
from findhall.worth import rarity_of, share_of, worth_of
from handed import GREAT_NUMBER, RefusalCase, Thing, no_whole_numbers

GREAT = 10 ** 20


def wrong_numbers():
    return no_whole_numbers() + [-1, -2, -300, -GREAT, -GREAT_NUMBER, (0, 1), (1, 2), fractions.Fraction(1)]


def looked_share(count, size, many, total):
    """By the words of the document, with Python's own fractions, to be compared with the program."""
    if count == 0:
        return fractions.Fraction(0)
    return fractions.Fraction(2 * count * total, (count + 1) * total + size * many)


def looked_worth(counts, founds, size, many, total):
    leaves = zip(counts, founds, strict=True)
    return sum(
        (looked_share(count, size, many, total) * fractions.Fraction(many + 1, found + 1) for count, found in leaves),
        fractions.Fraction(0))


class WorthCase(RefusalCase):
    def check_told(self, told, wanted):
        self.assertIs(type(told), tuple)
        self.assertEqual([type(part) for part in told], [int, int])
        if isinstance(wanted, fractions.Fraction):
            wanted = (wanted.numerator, wanted.denominator)
        self.assertEqual(told, wanted)
        self.assertGreaterEqual(told[1], 1)
        self.assertEqual(math.gcd(told[0], told[1]), 1)

    def check_each_place(self, call, right):
        """Whatever is wrong, at whatever place, is refused; what is right is told behind it."""
        ahead = call(*right)
        for place in range(len(right)):
            for thing in wrong_numbers():
                self.check_refused(BadNumber, call, *right[:place], thing, *right[place + 1:])
                self.assertEqual(call(*right), ahead)
        for one, other in itertools.combinations(range(len(right)), 2):
            handed = [Thing() if place in (one, other) else number for place, number in enumerate(right)]
            self.check_refused(BadNumber, call, *handed)


class ShareTest(WorthCase):
    def test_count_nought(self):
        for others in itertools.product((0, 1, 7, GREAT), repeat=3):
            self.check_told(share_of(0, *others), (0, 1))

    def test_some_by_hand(self):
        for handed, wanted in (
            ((1, 1, 1, 1), (2, 3)), ((1, 2, 1, 2), (2, 3)), ((2, 2, 1, 2), (1, 1)), ((1, 3, 2, 6), (2, 3)),
            ((1, 5, 2, 6), (6, 11)), ((3, 3, 4, 10), (15, 13)), ((1, 1, 2, 10), (10, 11)), ((1, 100, 1, 100), (2, 3)),
            ((5, 5, 1, 5), (10, 7)), ((1, 9, 2, 10), (10, 19)), ((2, 1, 1, 1), (1, 1)), ((1, 1, 1, 3), (6, 7)),
        ):
            self.check_told(share_of(*handed), wanted)

    def test_all_small_ones(self):
        for handed in itertools.product(range(1, 7), repeat=4):
            self.check_told(share_of(*handed), looked_share(*handed))

    def test_great_numbers(self):
        for handed in itertools.product((1, 6, GREAT, GREAT + 1, 7 ** 90), repeat=4):
            self.check_told(share_of(*handed), looked_share(*handed))
        self.check_told(share_of(GREAT_NUMBER, 1, 1, 1), looked_share(GREAT_NUMBER, 1, 1, 1))
        self.check_told(share_of(1, GREAT_NUMBER, 1, GREAT_NUMBER), (2, 3))

    def test_it_grows_with_count(self):
        for size, many, total in ((1, 1, 1), (9, 4, 30), (GREAT, 3, GREAT + 7), (2, GREAT, 5)):
            counts = list(range(12)) + [100, GREAT, GREAT + 1, GREAT ** 2]
            shares = [fractions.Fraction(*share_of(count, size, many, total)) for count in counts]
            self.assertEqual(shares, sorted(set(shares)))

    def test_it_falls_with_size(self):
        for count, many, total in ((1, 1, 1), (3, 4, 30), (GREAT, 3, GREAT + 7), (2, GREAT, 5)):
            sizes = list(range(1, 12)) + [100, GREAT, GREAT + 1, GREAT ** 2]
            shares = [fractions.Fraction(*share_of(count, size, many, total)) for size in sizes]
            self.assertEqual(shares, sorted(set(shares), reverse=True))

    def test_it_is_less_than_two(self):
        for handed in itertools.product((1, 2, 50, GREAT, GREAT ** 3), repeat=4):
            above, below = share_of(*handed)
            self.assertLess(above, 2 * below)
            self.assertGreater(above, 0)

    def test_what_is_no_number(self):
        self.check_each_place(share_of, (2, 3, 4, 12))
        self.check_each_place(share_of, (0, 0, 0, 0))
        self.check_each_place(share_of, (GREAT, GREAT, GREAT, GREAT))

    def test_the_arguments_have_their_names(self):
        self.assertEqual(share_of(count=1, size=5, many=2, total=6), (6, 11))
        self.assertEqual(str(inspect.signature(share_of)), "(count, size, many, total)")


class RarityTest(WorthCase):
    def test_some_by_hand(self):
        for handed, wanted in (
            ((0, 0), (1, 1)), ((1, 0), (2, 1)), ((1, 1), (1, 1)), ((9, 0), (10, 1)), ((9, 9), (1, 1)),
            ((9, 4), (2, 1)), ((9, 3), (5, 2)), ((5, 2), (2, 1)), ((6, 2), (7, 3)), ((0, 1), (1, 2)),
            ((2, 8), (1, 3)),
        ):
            self.check_told(rarity_of(*handed), wanted)

    def test_many_small_ones(self):
        for many, found in itertools.product(range(20), repeat=2):
            self.check_told(rarity_of(many, found), fractions.Fraction(many + 1, found + 1))

    def test_found_none_and_found_all(self):
        for many in (0, 1, 2, 3, 1000, GREAT, GREAT_NUMBER):
            self.check_told(rarity_of(many, 0), (many + 1, 1))
            self.check_told(rarity_of(many, many), (1, 1))
        self.check_told(rarity_of(0, GREAT), (1, GREAT + 1))

    def test_what_is_no_number(self):
        self.check_each_place(rarity_of, (9, 3))
        self.check_each_place(rarity_of, (0, 0))

    def test_the_arguments_have_their_names(self):
        self.assertEqual(rarity_of(many=9, found=3), (5, 2))
        self.assertEqual(str(inspect.signature(rarity_of)), "(many, found)")


class WorthTest(WorthCase):
    def check_worth(self, counts, founds, size, many, total, wanted=None):
        handed_counts, handed_founds = list(counts), list(founds)
        told = worth_of(handed_counts, handed_founds, size, many, total)
        looked = looked_worth(counts, founds, size, many, total)
        self.check_told(told, looked if wanted is None else wanted)
        self.assertEqual(fractions.Fraction(*told), looked)
        self.assertEqual((handed_counts, handed_founds), (list(counts), list(founds)))

    def test_no_leaves(self):
        for others in itertools.product((0, 1, 5, GREAT), repeat=3):
            self.check_worth([], [], *others, wanted=(0, 1))

    def test_some_by_hand(self):
        self.check_worth([1], [1], 1, 1, 1, (2, 3))
        self.check_worth([1], [1], 3, 3, 9, (4, 3))
        self.check_worth([1], [0], 3, 3, 9, (8, 3))
        self.check_worth([1, 1], [1, 3], 3, 3, 9, (2, 1))
        self.check_worth([2, 1], [1, 1], 2, 1, 2, (5, 3))
        self.check_worth([0, 3], [7, 4], 3, 9, 27, (12, 5))
        self.check_worth([3, 0], [4, 7], 3, 9, 27, (12, 5))
        self.check_worth([1, 2, 1], [1, 0, 2], 5, 2, 6)

    def test_counts_of_nought(self):
        for counts in itertools.product((0, 1, 4), repeat=3):
            self.check_worth(counts, (1, 0, 6), 7, 6, 40)
            self.check_worth(counts, (0, 0, 0), 7, 6, 40)
        self.check_worth([0], [0], 0, 0, 0, (0, 1))
        self.check_worth([0, 0, 0], [0, 5, GREAT], 0, 3, 0, (0, 1))

    def test_a_leaf_twice_counts_twice(self):
        self.check_worth([1, 1], [1, 1], 3, 3, 9, (8, 3))
        self.check_worth([2] * 40, [1] * 40, 3, 3, 9)

    def test_numbers_of_any_size(self):
        chance = random.Random(13)
        sizes = (1, 2, 9, 1000, GREAT, GREAT + 1, 3 ** 100)
        for turn in range(300):
            leaves = chance.randrange(7)
            counts = [chance.choice((0,) + sizes) for leaf in range(leaves)]
            founds = [chance.choice((0,) + sizes) for leaf in range(leaves)]
            self.check_worth(counts, founds, *(chance.choice(sizes) for part in range(3)))
        self.check_worth([GREAT_NUMBER], [0], 1, 1, 1)

    def test_worths_that_lie_close_together(self):
        one = worth_of([GREAT], [1], GREAT, GREAT, GREAT ** 2)
        other = worth_of([GREAT + 1], [1], GREAT, GREAT, GREAT ** 2)
        self.assertNotEqual(one, other)
        self.assertLess(fractions.Fraction(*one), fractions.Fraction(*other))

    def test_of_what_is_found_in_a_book(self):
        book = Book([("k1", "the cat and the dog"), ("k2", "cat"), ("k3", ""), ("k4", "dogs, dogs")])
        near = Near(Word("cat"), Row(["the", "dog"]), 1)
        ask = Either(Both(Word("the"), Start("dog")), Either(Not(Word("cat")), near))
        found = [dict(counted(book, leaf)) for leaf in ask.leaves()]
        self.assertEqual(found, [{0: 2}, {0: 1, 3: 2}, {0: 1}])
        founds = [len(counts) for counts in found]
        for number, wanted in enumerate(((1090, 297), (0, 1), (0, 1), (5, 3))):
            counts = [counts.get(number, 0) for counts in found]
            self.check_worth(counts, founds, book.size_of(number), book.many(), book.total(), wanted)

    def test_what_is_no_number(self):
        for counts, founds, size, many, total in (
            ([1, 0, 2], [1, 0, 3], 5, 4, 20), ([0], [0], 0, 0, 0), ([], [], 0, 0, 0), ([0, 0], [3, 4], 5, 4, 20),
        ):
            leaves = len(counts)

            def worth(*numbers):
                return worth_of(list(numbers[:leaves]), list(numbers[leaves:2 * leaves]), *numbers[2 * leaves:])

            self.check_each_place(worth, (*counts, *founds, size, many, total))

    def test_refused_lists_stay(self):
        counts, founds = [1, -1, 2], [1, 0, None]
        self.check_refused(BadNumber, worth_of, counts, founds, 5, 4, 20)
        self.assertEqual((counts, founds), ([1, -1, 2], [1, 0, None]))

    def test_lists_changed_behind_the_call(self):
        counts, founds = [1, 1], [1, 3]
        told = worth_of(counts, founds, 3, 3, 9)
        counts.append(5)
        founds[0] = 0
        self.assertEqual(told, (2, 1))
        self.assertEqual(worth_of([1, 1], [1, 3], 3, 3, 9), (2, 1))
        founds.append(2)
        self.check_worth(counts, founds, 3, 3, 9)

    def test_the_arguments_have_their_names(self):
        self.assertEqual(worth_of(counts=[1], founds=[1], size=3, many=3, total=9), (4, 3))
        self.assertEqual(str(inspect.signature(worth_of)), "(counts, founds, size, many, total)")


if __name__ == "__main__":
    unittest.main()
