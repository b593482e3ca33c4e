import itertools
import random
import unittest

from findhall.errors import BadNumber, BadParts
from findhall.packing import packed, unpacked
from handed import GREAT_NUMBER, RefusalCase, no_lists, no_whole_numbers


def sevens(number):
    """The parts of one number by another way than the program's own, to be compared with it."""
    bits = bin(number)[2:]
    bits = "0" * (-len(bits) % 7) + bits
    lows = [int(bits[at:at + 7], 2) for at in range(0, len(bits), 7)][::-1]
    return [low + 128 for low in lows[:-1]] + lows[-1:]


def looked_through(parts):
    """The numbers that parts are packed from, found by the words of the document; None where there are none."""
    numbers, ahead = [], []
    for part in parts:
        if not 0 <= part <= 255:
            return None
        ahead.append(part)
        if part < 128:
            if part == 0 and len(ahead) > 1:
                return None
            numbers.append(sum((low & 127) << (7 * at) for at, low in enumerate(ahead)))
            ahead = []
    return None if ahead else numbers


def edge_numbers():
    numbers = set(range(300))
    for power in range(1, 40):
        numbers.update(128 ** power + step for step in (-2, -1, 0, 1, 2, 127, 128, 129))
    for power in (10, 20, 59, 60, 61, 80):
        numbers.update(10 ** power + step for step in (-1, 0, 1))
    return sorted(numbers) + [GREAT_NUMBER, GREAT_NUMBER - 1]


class PackingCase(RefusalCase):
    def check_parts(self, numbers, wanted):
        handed = list(numbers)
        told = packed(handed)
        self.assertIs(type(told), list)
        self.assertTrue(all(type(part) is int and 0 <= part <= 255 for part in told))
        self.assertEqual(told, wanted)
        self.assertEqual(handed, list(numbers))

    def check_numbers(self, parts, wanted):
        handed = list(parts)
        told = unpacked(handed)
        self.assertIs(type(told), list)
        self.assertTrue(all(type(number) is int for number in told))
        self.assertEqual(told, wanted)
        self.assertEqual(handed, list(parts))


class PackedTest(PackingCase):
    def test_some_by_hand(self):
        for numbers, parts in (
            ([], []), ([0], [0]), ([1], [1]), ([5], [5]), ([127], [127]), ([128], [128, 1]), ([129], [129, 1]),
            ([255], [255, 1]), ([256], [128, 2]), ([300], [172, 2]), ([16383], [255, 127]), ([16384], [128, 128, 1]),
            ([16385], [129, 128, 1]), ([2097151], [255, 255, 127]), ([2097152], [128, 128, 128, 1]),
            ([0, 0], [0, 0]), ([5, 300], [5, 172, 2]), ([300, 5], [172, 2, 5]), ([128, 0, 127], [128, 1, 0, 127]),
            ([300, 300, 0, 300], [172, 2, 172, 2, 0, 172, 2]), ([2, 1, 0, 2, 4, 0, 1], [2, 1, 0, 2, 4, 0, 1]),
        ):
            self.check_parts(numbers, parts)
            self.check_numbers(parts, numbers)

    def test_each_number_alone(self):
        for number in edge_numbers():
            self.check_parts([number], sevens(number))

    def test_how_many_parts_there_are(self):
        for power in range(1, 30):
            self.assertEqual(len(packed([128 ** power - 1])), power)
            self.assertEqual(len(packed([128 ** power])), power + 1)

    def test_several_numbers(self):
        chosen = [0, 1, 5, 127, 128, 300, 16383, 16384, 10 ** 60]
        for numbers in itertools.product(chosen, repeat=3):
            self.check_parts(numbers, sum([sevens(number) for number in numbers], []))
        every = edge_numbers()
        self.check_parts(every, sum([sevens(number) for number in every], []))


class PackedRefusedTest(PackingCase):
    def check_at_each_place(self, thing):
        self.check_refused(BadNumber, packed, [thing])
        for place in range(4):
            numbers = [0, 300, 10 ** 60]
            numbers.insert(place, thing)
            self.check_refused(BadNumber, packed, numbers)

    def test_numbers_below_nought(self):
        for number in (-1, -2, -127, -128, -300, -(10 ** 60), -GREAT_NUMBER):
            self.check_at_each_place(number)

    def test_no_whole_numbers(self):
        for thing in no_whole_numbers():
            self.check_at_each_place(thing)

    def test_a_refusal_changes_nothing(self):
        handed = [1, 300, None, 7]
        self.check_refused(BadNumber, packed, handed)
        self.assertEqual(handed, [1, 300, None, 7])
        self.check_parts([300], [172, 2])


class UnpackedTest(PackingCase):
    def test_what_was_packed_is_read_back(self):
        for number in edge_numbers():
            self.check_numbers(sevens(number), [number])
            self.check_numbers(packed([number]), [number])
        every = edge_numbers()
        self.check_numbers(packed(every), every)
        chosen = [0, 5, 127, 128, 300, 16384, 10 ** 60]
        for numbers in itertools.product(chosen, repeat=3):
            self.check_numbers(packed(list(numbers)), list(numbers))

    def test_all_parts_of_some_few(self):
        for length in range(5):
            for parts in itertools.product((0, 1, 127, 128, 129, 255), repeat=length):
                numbers = looked_through(parts)
                if numbers is None:
                    self.check_refused(BadParts, unpacked, list(parts))
                else:
                    self.check_numbers(parts, numbers)
                    self.check_parts(numbers, list(parts))

    def test_all_parts_of_two(self):
        for parts in itertools.product(range(256), repeat=2):
            numbers = looked_through(parts)
            if numbers is None:
                self.check_refused(BadParts, unpacked, list(parts))
            else:
                self.assertEqual(unpacked(list(parts)), numbers)
                self.assertEqual(packed(numbers), list(parts))

    def test_many_parts(self):
        # The seed is fixed, so that each run looks at the same parts.
        chance = random.Random(5)
        for turn in range(400):
            parts = [chance.choice((chance.randrange(256), chance.randrange(128))) for each in range(turn % 40)]
            numbers = looked_through(parts)
            if numbers is None:
                self.check_refused(BadParts, unpacked, parts)
            else:
                self.check_numbers(parts, numbers)
                self.check_parts(numbers, parts)


class UnpackedRefusedTest(PackingCase):
    def check_at_each_place(self, thing):
        self.check_refused(BadParts, unpacked, [thing])
        for parts in ([5, 7, 9], [172, 2, 172, 2]):
            for place in range(len(parts) + 1):
                self.check_refused(BadParts, unpacked, parts[:place] + [thing] + parts[place:])
            for place in range(len(parts)):
                self.check_refused(BadParts, unpacked, parts[:place] + [thing] + parts[place + 1:])

    def test_what_is_no_list(self):
        for thing in no_lists():
            self.check_refused(BadParts, unpacked, thing)

    def test_numbers_that_are_no_parts(self):
        for number in (-1, -2, -127, -128, -256, 256, 257, 300, 384, 10 ** 60, GREAT_NUMBER, -GREAT_NUMBER):
            self.check_at_each_place(number)

    def test_no_whole_numbers(self):
        for thing in no_whole_numbers():
            self.check_at_each_place(thing)

    def test_the_greatest_part(self):
        self.check_numbers([255, 1], [255])
        self.check_refused(BadParts, unpacked, [256, 1])

    def test_a_number_without_its_last_part(self):
        for number in edge_numbers()[128:]:
            parts = sevens(number)
            for length in {1, 2, len(parts) // 2, len(parts) - 1} - {0}:
                if length < len(parts):
                    self.check_refused(BadParts, unpacked, parts[:length])
                    self.check_refused(BadParts, unpacked, [5, 172, 2] + parts[:length])
        for part in range(128, 256):
            self.check_refused(BadParts, unpacked, [part])
            self.check_refused(BadParts, unpacked, [0, part])

    def test_a_last_part_of_nought(self):
        for parts in ([128, 0], [129, 0], [255, 0], [172, 128, 0], [128, 128, 128, 0], [128] * 30 + [0]):
            for ahead in ([], [0], [5], [172, 2]):
                for behind in ([], [0], [5], [172, 2]):
                    self.check_refused(BadParts, unpacked, ahead + parts + behind)

    def test_a_lone_nought(self):
        self.check_numbers([0], [0])
        self.check_numbers([0, 0, 0], [0, 0, 0])
        self.check_numbers([172, 2, 0], [300, 0])
        self.check_numbers([0, 172, 2], [0, 300])
        self.check_numbers([128, 128, 1, 0], [16384, 0])

    def test_a_refusal_changes_nothing(self):
        handed = [172, 2, 128, 0]
        self.check_refused(BadParts, unpacked, handed)
        self.assertEqual(handed, [172, 2, 128, 0])
        self.check_numbers([172, 2], [300])


class OwnTest(PackingCase):
    def test_what_is_told_is_the_asker_s_own(self):
        for call, handed in ((packed, [300, 5]), (unpacked, [172, 2, 5]), (packed, []), (unpacked, [])):
            before = list(handed)
            told = call(handed)
            wanted = list(told)
            told.append(7)
            told[0] = 99
            self.assertEqual(handed, before)
            self.assertEqual(call(handed), wanted)

    def test_what_was_handed_in_is_not_kept(self):
        for call, handed in ((packed, [300, 5]), (unpacked, [172, 2, 5])):
            told = call(handed)
            wanted = list(told)
            handed.append(7)
            handed[0] = 99
            self.assertEqual(told, wanted)

    def test_the_arguments_have_their_names(self):
        self.assertEqual(packed(numbers=[300]), [172, 2])
        self.assertEqual(unpacked(parts=[172, 2]), [300])


if __name__ == "__main__":
    unittest.main()
