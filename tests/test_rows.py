import itertools
import random
import unittest

from findhall.errors import BadParts, BadRow
from findhall.packing import packed, unpacked
from findhall.rows import packed_row, unpacked_row
from handed import GREAT_NUMBER, RefusalCase, no_lists, no_whole_numbers

PAIRS = [(2, (0, 3)), (7, (1,)), (300, (4, 5, 900)), (10 ** 60, (0, 10 ** 60))]


def numbers_of_row(row):
    """What a row is packed as, by the words of the document, to be compared with the program."""
    numbers = []
    for at, (number, places) in enumerate(row):
        numbers.append(number if at == 0 else number - row[at - 1][0] - 1)
        numbers.append(len(places) - 1)
        numbers.append(places[0])
        numbers += [after - ahead - 1 for ahead, after in zip(places, places[1:])]
    return numbers


def all_small_rows(most):
    """All rows of numbers and places less than most."""
    some_places = [
        places for many in range(1, most + 1) for places in itertools.combinations(range(most), many)
    ]
    for many in range(most + 1):
        for numbers in itertools.combinations(range(most), many):
            for every in itertools.product(some_places, repeat=many):
                yield list(zip(numbers, every))


def chance_row(chance):
    number, row = -1, []
    for each in range(chance.randrange(8)):
        number += 1 + chance.choice((0, chance.randrange(200), chance.randrange(10 ** 40)))
        place, places = -1, []
        for other in range(chance.randrange(1, 9)):
            place += 1 + chance.choice((0, chance.randrange(200), chance.randrange(10 ** 40)))
            places.append(place)
        row.append((number, tuple(places)))
    return row


def some_rows():
    yield from all_small_rows(3)
    yield from [PAIRS[begin:end] for begin in range(4) for end in range(begin, 5)]
    # The seed is fixed, so that each run looks at the same rows.
    chance = random.Random(7)
    yield from [chance_row(chance) for turn in range(150)]
    yield [(number, (number,)) for number in range(400)]
    yield [(0, tuple(range(400)))]
    yield [(GREAT_NUMBER - 1, (GREAT_NUMBER,)), (GREAT_NUMBER, (0, GREAT_NUMBER))]


class RowCase(RefusalCase):
    def check_row(self, told, wanted):
        self.assertIs(type(told), list)
        for pair in told:
            self.assertEqual([type(part) for part in pair], [int, tuple])
            self.assertIs(type(pair), tuple)
            self.assertTrue(all(type(place) is int for place in pair[1]))
        self.assertEqual(told, wanted)

    def check_no_row(self, thing):
        self.check_refused(BadRow, packed_row, thing)

    def check_no_parts(self, thing):
        self.check_refused(BadParts, unpacked_row, thing)


class PackedRowTest(RowCase):
    def test_some_by_hand(self):
        for row, parts in (
            ([], []),
            ([(2, (0, 3)), (7, (1,))], [2, 1, 0, 2, 4, 0, 1]),
            ([(0, (0,))], [0, 0, 0]),
            ([(5, (7,))], [5, 0, 7]),
            ([(0, (0,)), (1, (0,))], [0, 0, 0, 0, 0, 0]),
            ([(0, (0, 1, 2))], [0, 2, 0, 0, 0]),
            ([(3, (1, 2, 9))], [3, 2, 1, 0, 6]),
            ([(300, (300,))], [172, 2, 0, 172, 2]),
            ([(1, (5,)), (302, (5, 306))], [1, 0, 5, 172, 2, 1, 5, 172, 2]),
            ([(128, (128, 257))], [128, 1, 1, 128, 1, 128, 1]),
        ):
            self.assertEqual(packed_row(row), parts)
            self.check_row(unpacked_row(parts), row)

    def test_rows_pack_as_their_numbers(self):
        for row in some_rows():
            handed = list(row)
            told = packed_row(handed)
            self.assertIs(type(told), list)
            self.assertTrue(all(type(part) is int and 0 <= part <= 255 for part in told))
            self.assertEqual(told, packed(numbers_of_row(row)))
            self.assertEqual(unpacked(told), numbers_of_row(row))
            self.assertEqual(handed, row)

    def test_rows_are_read_back(self):
        for row in some_rows():
            self.check_row(unpacked_row(packed_row(row)), row)


class PackedRowRefusedTest(RowCase):
    def check_in_place_of_each(self, thing):
        self.check_no_row([thing])
        for place in range(len(PAIRS)):
            self.check_no_row(PAIRS[:place] + [thing] + PAIRS[place + 1:])
        for place in range(len(PAIRS) + 1):
            self.check_no_row(PAIRS[:place] + [thing] + PAIRS[place:])

    def check_number_of_each(self, thing):
        self.check_no_row([(thing, (0,))])
        for place, (number, places) in enumerate(PAIRS):
            self.check_no_row(PAIRS[:place] + [(thing, places)] + PAIRS[place + 1:])

    def check_places_of_each(self, places):
        self.check_no_row([(0, places)])
        for place, (number, others) in enumerate(PAIRS):
            self.check_no_row(PAIRS[:place] + [(number, places)] + PAIRS[place + 1:])

    def test_what_is_no_list(self):
        for thing in no_lists():
            self.check_no_row(thing)

    def test_what_in_it_is_no_tuple_of_two(self):
        for thing in no_lists():
            self.check_in_place_of_each(thing)
        for thing in (
            [2, (0, 3)], [2, [0, 3]], (2,), ((0, 3),), (2, (0, 3), 1), (2, (0, 3), (4,)), (2, 0, 3), ((2, (0,)),),
        ):
            self.check_in_place_of_each(thing)

    def test_numbers_that_are_none(self):
        for thing in no_whole_numbers() + [-1, -2, -300, -GREAT_NUMBER]:
            self.check_number_of_each(thing)

    def test_numbers_in_the_others_stead(self):
        self.check_in_place_of_each(((0, 3), 2))

    def test_numbers_that_stand_twice(self):
        for place in range(len(PAIRS)):
            self.check_no_row(PAIRS[:place + 1] + PAIRS[place:])
            self.check_no_row(PAIRS[:place + 1] + [(PAIRS[place][0], (9,))] + PAIRS[place + 1:])
            self.check_no_row(PAIRS + [PAIRS[place]])
        self.check_no_row([(0, (0,)), (0, (0,))])
        self.check_no_row([(0, (0,)), (0, (1,))])

    def test_numbers_that_do_not_rise(self):
        for several in itertools.permutations(PAIRS):
            if list(several) != PAIRS:
                self.check_no_row(list(several))
        self.check_no_row([(1, (0,)), (0, (0,))])
        for numbers in itertools.product(range(4), repeat=3):
            row = [(number, (0,)) for number in numbers]
            if numbers[0] < numbers[1] < numbers[2]:
                self.assertEqual(unpacked_row(packed_row(row)), row)
            else:
                self.check_no_row(row)

    def test_places_that_are_no_tuple(self):
        for thing in no_whole_numbers() + [0, 1, [0], [0, 3], {0: 3}, {0, 3}, range(3), -1]:
            if not isinstance(thing, tuple):
                self.check_places_of_each(thing)

    def test_no_places(self):
        self.check_places_of_each(())

    def test_places_that_are_none(self):
        for thing in no_whole_numbers() + [-1, -2, -300, -GREAT_NUMBER]:
            self.check_places_of_each((thing,))
            for place in range(4):
                places = [1, 300, 10 ** 60]
                places.insert(place, thing)
                self.check_places_of_each(tuple(places))

    def test_places_that_do_not_rise(self):
        for places in itertools.product(range(4), repeat=3):
            if not places[0] < places[1] < places[2]:
                self.check_places_of_each(places)
        for places in ((0, 0), (1, 0), (300, 299), (300, 300), (10 ** 60, 10 ** 60), (1, 2, 3, 3), (1, 2, 3, 0)):
            self.check_places_of_each(places)

    def test_a_refusal_changes_nothing(self):
        handed = [(2, (0, 3)), (7, [1])]
        self.check_no_row(handed)
        self.assertEqual(handed, [(2, (0, 3)), (7, [1])])
        self.assertEqual(packed_row([(0, (0,))]), [0, 0, 0])


class UnpackedRowTest(RowCase):
    def test_whatever_is_read_packs_to_the_same_parts(self):
        read = 0
        for length in range(7):
            for parts in itertools.product((0, 1, 2, 128, 129), repeat=length):
                handed = list(parts)
                try:
                    row = unpacked_row(handed)
                except BadParts:
                    continue
                read += 1
                self.assertEqual(handed, list(parts))
                self.assertEqual(packed_row(row), list(parts))
        self.assertGreater(read, 100)

    def test_what_is_read_of_all_small_numbers(self):
        # By how many numbers there are it can be told whether each tuple has all of its own.
        for length in range(7):
            for numbers in itertools.product(range(3), repeat=length):
                left = list(numbers)
                while len(left) >= 3 and len(left) >= 3 + left[1]:
                    left = left[3 + left[1]:]
                if left:
                    self.check_no_parts(packed(list(numbers)))
                else:
                    self.assertEqual(numbers_of_row(unpacked_row(packed(list(numbers)))), list(numbers))

    def test_the_empty_list(self):
        self.check_row(unpacked_row([]), [])


class UnpackedRowRefusedTest(RowCase):
    def test_what_is_no_list(self):
        for thing in no_lists():
            self.check_no_parts(thing)

    def test_parts_that_are_none(self):
        parts = packed_row(PAIRS[:3])
        for thing in no_whole_numbers() + [-1, -128, 256, 300, GREAT_NUMBER, -GREAT_NUMBER]:
            self.check_no_parts([thing])
            for place in range(len(parts) + 1):
                self.check_no_parts(parts[:place] + [thing] + parts[place:])
            for place in range(len(parts)):
                self.check_no_parts(parts[:place] + [thing] + parts[place + 1:])

    def test_a_number_without_its_last_part(self):
        for ahead in ([], [0, 0, 0], [2, 1, 0, 2, 4, 0, 1]):
            for behind in ([128], [255, 255], [0, 128], [0, 0, 128], [0, 1, 0, 129], [172]):
                self.check_no_parts(ahead + behind)

    def test_a_last_part_of_nought(self):
        for parts in ([128, 0, 0, 0], [0, 128, 0, 0], [0, 0, 128, 0], [0, 0, 0, 128, 0], [0, 1, 0, 255, 0]):
            self.check_no_parts(parts)
            self.check_no_parts([0, 0, 0] + parts)
            self.check_no_parts(parts + [0, 0, 0])

    def test_a_last_tuple_cut_at_each_place(self):
        for row in some_rows():
            if len(row) > 30 or len(row) == 0:
                continue
            numbers = numbers_of_row(row)
            whole = len(numbers) - len(numbers_of_row(row[-1:]))
            for length in range(whole + 1, len(numbers)):
                if length < whole + 20:
                    self.check_no_parts(packed(numbers[:length]))
            self.check_row(unpacked_row(packed(numbers[:whole])), row[:-1])

    def test_parts_cut_at_each_place(self):
        parts = packed_row(PAIRS)
        ends = {len(packed_row(PAIRS[:many])): many for many in range(len(PAIRS) + 1)}
        for length in range(len(parts) + 1):
            if length in ends:
                self.check_row(unpacked_row(parts[:length]), PAIRS[:ends[length]])
            else:
                self.check_no_parts(parts[:length])

    def test_more_places_told_than_there_are(self):
        for many in (1, 2, 3, 127, 128, 10 ** 9, 10 ** 60, GREAT_NUMBER):
            self.check_no_parts(packed([0, many, 0]))
            self.check_no_parts(packed([0, 0, 0, 5, many, 0]))

    def test_a_refusal_changes_nothing(self):
        handed = [2, 1, 0, 2, 4, 0]
        self.check_no_parts(handed)
        self.assertEqual(handed, [2, 1, 0, 2, 4, 0])
        self.check_row(unpacked_row([0, 0, 0]), [(0, (0,))])


class OwnTest(RowCase):
    def test_what_is_told_is_the_asker_s_own(self):
        for call, handed in ((packed_row, PAIRS[:2]), (unpacked_row, [2, 1, 0, 2, 4, 0, 1])):
            before = list(handed)
            told = call(handed)
            wanted = list(told)
            told.append((9, (9,)))
            told[0] = (1, (1,))
            self.assertEqual(handed, before)
            self.assertEqual(call(handed), wanted)

    def test_what_was_handed_in_is_not_kept(self):
        for call, handed in ((packed_row, PAIRS[:2]), (unpacked_row, [2, 1, 0, 2, 4, 0, 1])):
            told = call(handed)
            wanted = list(told)
            handed.append((9, (9,)))
            handed[0] = (1, (1,))
            self.assertEqual(told, wanted)

    def test_the_arguments_have_their_names(self):
        self.assertEqual(packed_row(row=[(5, (7,))]), [5, 0, 7])
        self.assertEqual(unpacked_row(parts=[5, 0, 7]), [(5, (7,))])


if __name__ == "__main__":
    unittest.main()
