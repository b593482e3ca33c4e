import fractions
import itertools
import math
import unittest

from findhall.errors import BadNumber
from findhall.fractions import fraction, is_less, product_of, shown_fraction, sum_of
from handed import GREAT_NUMBER, RefusalCase, no_whole_numbers

GREAT_DIVISOR = 3 ** 70
SMALL_ONES = [(above, below) for above in range(-7, 8) for below in range(1, 8) if math.gcd(above, below) == 1]
GREAT_ONES = [
    (10 ** 30 + 1, 10 ** 30), (-(10 ** 30) - 1, 10 ** 30), (2 ** 200, 3 ** 100), (-(2 ** 200), 3 ** 100),
    (1, 7 ** 80), (-1, 7 ** 80), (5 ** 60, 1), (-(5 ** 60), 1), (1, 10 ** 40), (1, 10 ** 40 + 1),
]


def odd_things():
    return no_whole_numbers() + [fractions.Fraction(1, 2), fractions.Fraction(2)]


def shortest(one):
    """A fraction by another way than the program's own, to be compared with it."""
    return (one.numerator, one.denominator)


class FractionCase(RefusalCase):
    def check_told(self, told, wanted):
        self.assertIs(type(told), tuple)
        self.assertEqual([type(part) for part in told], [int, int])
        self.assertEqual(told, wanted)
        self.assertGreaterEqual(told[1], 1)
        self.assertEqual(math.gcd(told[0], told[1]), 1)


class MadeTest(FractionCase):
    def test_some_by_hand(self):
        for handed, wanted in (
            ((6, 8), (3, 4)), ((-6, 8), (-3, 4)), ((3, 4), (3, 4)), ((-3, 4), (-3, 4)), ((8, 6), (4, 3)),
            ((1, 1), (1, 1)), ((-1, 1), (-1, 1)), ((5, 5), (1, 1)), ((-5, 5), (-1, 1)), ((10, 5), (2, 1)),
            ((5, 10), (1, 2)), ((-5, 10), (-1, 2)), ((7, 9), (7, 9)), ((1, 12), (1, 12)), ((12, 18), (2, 3)),
        ):
            self.check_told(fraction(*handed), wanted)

    def test_all_small_ones(self):
        for above in range(-30, 31):
            for below in range(1, 31):
                self.check_told(fraction(above, below), shortest(fractions.Fraction(above, below)))

    def test_without_a_below(self):
        for above in (-GREAT_NUMBER, -300, -5, -1, 0, 1, 5, 300, GREAT_NUMBER):
            self.check_told(fraction(above), (above, 1))
            self.check_told(fraction(above, 1), (above, 1))

    def test_nought(self):
        for below in (1, 2, 3, 12, 255, 10 ** 30, GREAT_DIVISOR, GREAT_NUMBER):
            self.check_told(fraction(0, below), (0, 1))
        self.check_told(fraction(0), (0, 1))
        self.check_told(fraction(-0, 4), (0, 1))

    def test_great_numbers_with_a_great_divisor(self):
        for above, below in SMALL_ONES + GREAT_ONES:
            for factor in (GREAT_DIVISOR, 10 ** 30, 2 ** 100, 10 ** 30 * GREAT_DIVISOR):
                self.check_told(fraction(above * factor, below * factor), (above, below))

    def test_great_numbers_without_a_divisor(self):
        for above, below in GREAT_ONES:
            self.check_told(fraction(above, below), (above, below))
        self.check_told(fraction(GREAT_NUMBER, GREAT_NUMBER + 1), (GREAT_NUMBER, GREAT_NUMBER + 1))
        self.check_told(fraction(-GREAT_NUMBER - 1, GREAT_NUMBER), (-GREAT_NUMBER - 1, GREAT_NUMBER))

    def test_numbers_that_take_many_steps(self):
        one, other = 1, 1
        for turn in range(300):
            one, other = other, one + other
        self.check_told(fraction(one, other), (one, other))
        self.check_told(fraction(-other * 6, one * 6), (-other, one))

    def test_the_arguments_have_their_names(self):
        self.check_told(fraction(above=6, below=8), (3, 4))
        self.check_told(fraction(above=6), (6, 1))


class RefusedTest(FractionCase):
    def check_no_fraction(self, *handed):
        self.check_refused(BadNumber, fraction, *handed)

    def test_a_below_of_less_than_one(self):
        for above in (-3, -1, 0, 1, 3, GREAT_NUMBER):
            for below in (0, -1, -2, -300, -GREAT_NUMBER):
                self.check_no_fraction(above, below)

    def test_the_least_below(self):
        self.check_told(fraction(3, 1), (3, 1))

    def test_no_whole_number_above(self):
        for thing in odd_things():
            self.check_no_fraction(thing)
            for below in (1, 2, 0, -1):
                self.check_no_fraction(thing, below)

    def test_no_whole_number_below(self):
        for thing in odd_things():
            for above in (0, 1, -1, 6):
                self.check_no_fraction(above, thing)

    def test_neither(self):
        for one, other in itertools.product(odd_things(), repeat=2):
            self.check_no_fraction(one, other)

    def test_a_refusal_changes_nothing(self):
        handed = [1]
        self.check_no_fraction(handed, 2)
        self.check_no_fraction(2, handed)
        self.assertEqual(handed, [1])
        self.check_told(fraction(6, 8), (3, 4))


class SumTest(FractionCase):
    def check_sum(self, one, other):
        wanted = shortest(fractions.Fraction(*one) + fractions.Fraction(*other))
        self.check_told(sum_of(one, other), wanted)

    def test_some_by_hand(self):
        for one, other, wanted in (
            ((1, 2), (1, 2), (1, 1)), ((1, 2), (1, 3), (5, 6)), ((1, 6), (1, 3), (1, 2)), ((0, 1), (0, 1), (0, 1)),
            ((0, 1), (-3, 4), (-3, 4)), ((-3, 4), (0, 1), (-3, 4)), ((-3, 4), (3, 4), (0, 1)), ((2, 1), (3, 1), (5, 1)),
            ((-1, 2), (1, 3), (-1, 6)), ((-1, 2), (-1, 2), (-1, 1)), ((5, 1), (-5, 1), (0, 1)),
            ((1, 2), (-1, 6), (1, 3)),
        ):
            self.check_told(sum_of(one, other), wanted)

    def test_all_small_ones(self):
        for one, other in itertools.product(SMALL_ONES, repeat=2):
            self.check_sum(one, other)

    def test_great_ones(self):
        for one, other in itertools.product(GREAT_ONES, GREAT_ONES + SMALL_ONES[::9]):
            self.check_sum(one, other)
            self.check_sum(other, one)

    def test_sums_that_come_to_nought(self):
        for above, below in SMALL_ONES + GREAT_ONES:
            self.check_told(sum_of((above, below), (-above, below)), (0, 1))

    def test_sums_across(self):
        for one, other in itertools.product(SMALL_ONES[::2] + GREAT_ONES, repeat=2):
            across = fraction(one[0] * other[1] + other[0] * one[1], one[1] * other[1])
            self.assertEqual(sum_of(one, other), across)


class ProductTest(FractionCase):
    def check_product(self, one, other):
        wanted = shortest(fractions.Fraction(*one) * fractions.Fraction(*other))
        self.check_told(product_of(one, other), wanted)

    def test_some_by_hand(self):
        for one, other, wanted in (
            ((1, 2), (1, 2), (1, 4)), ((2, 3), (3, 2), (1, 1)), ((-2, 3), (3, 4), (-1, 2)), ((-2, 3), (-3, 4), (1, 2)),
            ((0, 1), (5, 7), (0, 1)), ((5, 7), (0, 1), (0, 1)), ((0, 1), (-5, 7), (0, 1)), ((4, 1), (3, 1), (12, 1)),
            ((0, 1), (0, 1), (0, 1)), ((5, 7), (1, 1), (5, 7)), ((5, 7), (-1, 1), (-5, 7)), ((3, 8), (4, 9), (1, 6)),
        ):
            self.check_told(product_of(one, other), wanted)

    def test_all_small_ones(self):
        for one, other in itertools.product(SMALL_ONES, repeat=2):
            self.check_product(one, other)

    def test_great_ones(self):
        for one, other in itertools.product(GREAT_ONES, GREAT_ONES + SMALL_ONES[::9]):
            self.check_product(one, other)
            self.check_product(other, one)

    def test_products_across(self):
        for one, other in itertools.product(SMALL_ONES[::2] + GREAT_ONES, repeat=2):
            self.assertEqual(product_of(one, other), fraction(one[0] * other[0], one[1] * other[1]))


class LessTest(unittest.TestCase):
    def check_less(self, one, other):
        self.assertIs(is_less(one, other), True)
        self.assertIs(is_less(other, one), False)

    def test_some_by_hand(self):
        self.check_less((1, 3), (1, 2))
        self.check_less((-1, 2), (-1, 3))
        self.check_less((-1, 2), (1, 3))
        self.check_less((0, 1), (1, 100))
        self.check_less((-1, 100), (0, 1))
        self.check_less((2, 1), (3, 1))
        self.check_less((99, 100), (1, 1))
        self.check_less((-3, 2), (-1, 1))

    def test_like_ones(self):
        for one in SMALL_ONES + GREAT_ONES:
            self.assertIs(is_less(one, one), False)
            self.assertIs(is_less(one, (one[0], one[1])), False)

    def test_all_small_ones(self):
        for one, other in itertools.product(SMALL_ONES, repeat=2):
            self.assertIs(is_less(one, other), fractions.Fraction(*one) < fractions.Fraction(*other))

    def test_near_ones(self):
        # From n/(n + 1) to (n + 1)/(n + 2) is too small a step to be told without whole numbers.
        for number in (1, 2, 10, 10 ** 9, 10 ** 17, 10 ** 30, GREAT_NUMBER):
            self.check_less((number, number + 1), (number + 1, number + 2))
            self.check_less((-number - 1, number + 2), (-number, number + 1))
            self.check_less((1, number + 1), (1, number))
            self.check_less((-1, number), (-1, number + 1))
            self.check_less((number, 1), (number + 1, 1))
            self.check_less((number, number + 1), (1, 1))
            self.check_less((1, 1), (number + 1, number))

    def test_great_ones(self):
        for one, other in itertools.product(GREAT_ONES, GREAT_ONES + SMALL_ONES):
            self.assertIs(is_less(one, other), fractions.Fraction(*one) < fractions.Fraction(*other))
            self.assertIs(is_less(other, one), fractions.Fraction(*other) < fractions.Fraction(*one))


class ShownTest(unittest.TestCase):
    def check_shown(self, one, wanted):
        told = shown_fraction(one)
        self.assertIs(type(told), str)
        self.assertEqual(told, wanted)

    def test_some_by_hand(self):
        for one, wanted in (
            ((-3, 4), "-3/4"), ((0, 1), "0"), ((5, 1), "5"), ((-5, 1), "-5"), ((1, 2), "1/2"), ((-1, 2), "-1/2"),
            ((1, 1), "1"), ((-1, 1), "-1"), ((10, 1), "10"), ((1, 10), "1/10"), ((-120, 11), "-120/11"),
            ((3, 100), "3/100"), ((100, 1), "100"), ((7, 5), "7/5"),
        ):
            self.check_shown(one, wanted)

    def test_small_ones(self):
        for one in SMALL_ONES:
            self.check_shown(one, str(fractions.Fraction(*one)))

    def test_great_ones(self):
        for one in GREAT_ONES:
            self.check_shown(one, str(fractions.Fraction(*one)))

    def test_figures_with_noughts_among_them(self):
        for length in list(range(1, 140)) + [1000, 4299, 4300, 4301, 5000, 9000]:
            nought = "0" * (length - 1)
            self.check_shown((10 ** (length - 1), 1), "1" + nought)
            self.check_shown((-(10 ** (length - 1)), 1), "-1" + nought)
            self.check_shown((7, 10 ** (length - 1)), "7/1" + nought if length > 1 else "7")
            self.check_shown((10 ** length - 1, 1), "9" * length)
            self.check_shown((10 ** length + 1, 10 ** length), "1" + nought + "1/1" + nought + "0")


class NamesTest(FractionCase):
    def test_the_arguments_have_their_names(self):
        self.check_told(sum_of(one=(1, 2), other=(1, 3)), (5, 6))
        self.check_told(product_of(one=(1, 2), other=(1, 3)), (1, 6))
        self.assertIs(is_less(one=(1, 3), other=(1, 2)), True)
        self.assertEqual(shown_fraction(one=(1, 2)), "1/2")


if __name__ == "__main__":
    unittest.main()
