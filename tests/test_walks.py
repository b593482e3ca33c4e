import itertools
import random
import unittest

from findhall.errors import BadNumber, BadParts
from findhall.packing import packed
from findhall.rows import packed_row, unpacked_row
from findhall.walks import Walk
from handed import GREAT_NUMBER, RefusalCase, no_lists, no_whole_numbers

ROWS = [
    [],
    [(0, (0,))],
    [(5, (1, 2))],
    [(2, (0, 3)), (7, (1,))],
    [(0, (0,)), (1, (1,)), (2, (0, 2)), (3, (4,))],
    [(1, (0,)), (4, (2, 3)), (5, (1,)), (300, (9,)), (10 ** 60, (0, 10 ** 60))],
    [(3 * number + 1, (number, number + 2)) for number in range(40)],
    [(GREAT_NUMBER, (0,)), (GREAT_NUMBER + 2, (GREAT_NUMBER,))],
]


def walk_at(row, place):
    walk = Walk(packed_row(row))
    for turn in range(place):
        walk.step()
    return walk


def numbers_about(row):
    """Numbers that stand in a row, lie beside those that do, and lie beyond all."""
    numbers = {0, 1, GREAT_NUMBER * 2}
    for number, places in row:
        numbers.update((number, number + 1, max(number - 1, 0)))
    return sorted(numbers)


class WalkCase(RefusalCase):
    def check_stands(self, walk, left):
        """The walk stands at the first of the tuples that are left, or behind the last one."""
        told = walk.pair()
        if left:
            self.assertIs(type(told), tuple)
            self.assertEqual([type(part) for part in told], [int, tuple])
            self.assertEqual(told, left[0])
        else:
            self.assertIsNone(told)
        rest = walk.rest()
        self.assertIs(type(rest), list)
        self.assertTrue(all(type(pair) is tuple for pair in rest))
        self.assertEqual(rest, left)


class StepTest(WalkCase):
    def test_along_each_row(self):
        for row in ROWS:
            walk = Walk(packed_row(row))
            for place in range(len(row)):
                self.check_stands(walk, row[place:])
                self.assertIsNone(walk.step())
            for turn in range(3):
                self.check_stands(walk, [])
                self.assertIsNone(walk.step())

    def test_asking_goes_nowhere(self):
        for row in ROWS:
            for place in range(len(row) + 1):
                walk = walk_at(row, place)
                for turn in range(3):
                    self.check_stands(walk, row[place:])

    def test_the_pair_alone(self):
        walk = Walk([2, 1, 0, 2, 4, 0, 1])
        self.assertEqual(walk.pair(), (2, (0, 3)))
        walk.step()
        self.assertEqual(walk.pair(), (7, (1,)))
        walk.step()
        self.assertIsNone(walk.pair())
        walk.step()
        self.assertIsNone(walk.pair())

    def test_a_row_of_none(self):
        walk = Walk([])
        self.assertIsNone(walk.pair())
        self.assertEqual(walk.rest(), [])
        walk.step()
        walk.leap(0)
        self.check_stands(walk, [])


class LeapTest(WalkCase):
    def check_leap(self, row, place, number):
        walk = walk_at(row, place)
        self.assertIsNone(walk.leap(number))
        self.check_stands(walk, [pair for pair in row[place:] if pair[0] >= number])
        return walk

    def test_some_by_hand(self):
        row = [(2, (0, 3)), (7, (1,)), (9, (4,))]
        for place, number, left in (
            (0, 0, row), (0, 1, row), (0, 2, row), (0, 3, row[1:]), (0, 6, row[1:]), (0, 7, row[1:]), (0, 8, row[2:]),
            (0, 9, row[2:]), (0, 10, []), (1, 0, row[1:]), (1, 2, row[1:]), (1, 7, row[1:]), (1, 8, row[2:]),
            (2, 0, row[2:]), (2, 7, row[2:]), (2, 9, row[2:]), (2, 10, []), (3, 0, []), (3, 2, []), (3, 10, []),
        ):
            walk = walk_at(row, place)
            self.assertIsNone(walk.leap(number))
            self.check_stands(walk, left)

    def test_from_each_place_to_each_number(self):
        for row in ROWS:
            for place in range(len(row) + 1):
                for number in numbers_about(row):
                    self.check_leap(row, place, number)

    def test_all_small_rows(self):
        for many in range(6):
            for numbers in itertools.combinations(range(7), many):
                row = [(number, (0,)) for number in numbers]
                for place, number in itertools.product(range(many + 1), range(9)):
                    self.check_leap(row, place, number)

    def test_two_leaps_and_a_step_between(self):
        row = ROWS[5]
        for first, second in itertools.product(numbers_about(row), repeat=2):
            walk = self.check_leap(row, 0, first)
            left = [pair for pair in row if pair[0] >= first]
            walk.step()
            left = left[1:]
            self.check_stands(walk, left)
            walk.leap(second)
            self.check_stands(walk, [pair for pair in left if pair[0] >= second])

    def test_steps_and_leaps_in_turn(self):
        # The seed is fixed, so that each run goes the same ways.
        chance = random.Random(11)
        for turn in range(200):
            numbers = sorted(chance.sample(range(120), chance.randrange(60)))
            left = [(number, (chance.randrange(5),)) for number in numbers]
            walk = Walk(packed_row(left))
            for move in range(30):
                if chance.randrange(2):
                    walk.step()
                    left = left[1:]
                else:
                    number = chance.randrange(130)
                    walk.leap(number)
                    left = [pair for pair in left if pair[0] >= number]
                self.check_stands(walk, left)


class LeapRefusedTest(WalkCase):
    def test_what_is_no_number_from_nought_on(self):
        for row in ROWS:
            for place in {0, 1, len(row) // 2, len(row)}:
                walk = walk_at(row, place)
                for thing in no_whole_numbers() + [-1, -2, -300, -GREAT_NUMBER]:
                    self.check_refused(BadNumber, walk.leap, thing)
                    self.check_stands(walk, row[place:])

    def test_it_goes_on_behind_a_refusal(self):
        walk = Walk([2, 1, 0, 2, 4, 0, 1])
        self.check_refused(BadNumber, walk.leap, -1)
        walk.leap(3)
        self.check_stands(walk, [(7, (1,))])
        self.check_refused(BadNumber, walk.leap, None)
        walk.step()
        self.check_stands(walk, [])
        self.check_refused(BadNumber, walk.leap, True)
        self.check_stands(walk, [])


class MadeTest(WalkCase):
    def test_what_is_no_list(self):
        for thing in no_lists():
            self.check_refused(BadParts, Walk, thing)

    def test_parts_that_are_none(self):
        parts = [2, 1, 0, 2, 4, 0, 1]
        for thing in no_whole_numbers() + [-1, 256, GREAT_NUMBER]:
            for place in range(len(parts) + 1):
                self.check_refused(BadParts, Walk, parts[:place] + [thing] + parts[place:])

    def test_parts_that_nothing_packs_to(self):
        for parts in (
            [0], [0, 0], [128], [0, 0, 128], [0, 0, 128, 0], [128, 0, 0, 0], [0, 1, 0], [2, 1, 0, 2, 4], [0, 0, 0, 0],
            [2, 1, 0, 2, 4, 0], [0, 0, 0, 0, 0], packed([0, 10 ** 60, 0]), packed([0, 0, 0, 5, 3, 0, 1, 2]),
        ):
            self.check_refused(BadParts, Walk, parts)

    def test_just_what_is_refused_as_a_row(self):
        seen = {True: 0, False: 0}
        for length in range(6):
            for parts in itertools.product((0, 1, 2, 128, 129), repeat=length):
                try:
                    row = unpacked_row(list(parts))
                except BadParts:
                    row = None
                seen[row is None] += 1
                if row is None:
                    self.check_refused(BadParts, Walk, list(parts))
                else:
                    self.check_stands(Walk(list(parts)), row)
        self.assertGreater(min(seen.values()), 50)


class OwnTest(WalkCase):
    def test_two_walks_of_one_list(self):
        row = ROWS[5]
        parts = packed_row(row)
        one, other = Walk(parts), Walk(parts)
        one.step()
        one.step()
        self.check_stands(one, row[2:])
        self.check_stands(other, row)
        other.leap(300)
        self.check_stands(one, row[2:])
        self.check_stands(other, row[3:])
        one.leap(GREAT_NUMBER)
        self.check_stands(one, [])
        self.check_stands(other, row[3:])
        self.check_stands(Walk(parts), row)
        self.assertEqual(parts, packed_row(row))

    def test_the_parts_are_changed_behind_the_making(self):
        for row in ROWS:
            for place in {0, len(row) // 2, len(row)}:
                parts = packed_row(row)
                walk = Walk(parts)
                for turn in range(place):
                    walk.step()
                parts[:] = [9, 0, 9] + parts[3:]
                self.check_stands(walk, row[place:])
                parts.append(128)
                self.check_stands(walk, row[place:])
                parts.clear()
                self.check_stands(walk, row[place:])
                walk.step()
                self.check_stands(walk, row[place + 1:])
                walk.leap(GREAT_NUMBER * 2)
                self.check_stands(walk, [])

    def test_the_parts_stay_as_they_were(self):
        for row in ROWS:
            parts = packed_row(row)
            walk = Walk(parts)
            walk.leap(3)
            walk.step()
            walk.rest()
            self.assertEqual(parts, packed_row(row))
        handed = [2, 1, 0, 2, 4, 0]
        self.check_refused(BadParts, Walk, handed)
        self.assertEqual(handed, [2, 1, 0, 2, 4, 0])

    def test_a_rest_that_is_changed(self):
        for row in ROWS:
            for place in {0, len(row) // 2, len(row)}:
                walk = walk_at(row, place)
                rest = walk.rest()
                rest.append((9, (9,)))
                rest[0] = (8, (8,))
                self.check_stands(walk, row[place:])
                rest.clear()
                self.check_stands(walk, row[place:])
                walk.step()
                self.check_stands(walk, row[place + 1:])

    def test_a_rest_that_was_told_stays(self):
        row = ROWS[4]
        walk = Walk(packed_row(row))
        first, told = walk.rest(), walk.pair()
        walk.step()
        second = walk.rest()
        walk.leap(GREAT_NUMBER)
        self.assertEqual(first, row)
        self.assertEqual(second, row[1:])
        self.assertEqual(told, row[0])

    def test_the_arguments_have_their_names(self):
        walk = Walk(parts=[2, 1, 0, 2, 4, 0, 1])
        walk.leap(number=3)
        self.check_stands(walk, [(7, (1,))])


if __name__ == "__main__":
    unittest.main()
