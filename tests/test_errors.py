import unittest

from findhall import errors
from findhall.errors import BadKept, BadText, HallError, NoAsk

REFUSALS = (
    "BadNumber", "BadText", "BadKey", "BadWord", "BadParts", "BadRow", "BadAsk", "BadSpan",
    "NoText", "Twice", "NoLine", "NoAsk", "BadKept",
)


class ErrorsTest(unittest.TestCase):
    def test_any_refusal_is_a_value_error(self):
        self.assertEqual(HallError.__bases__, (ValueError,))

    def test_each_stands_straight_under_any_refusal(self):
        for name in REFUSALS:
            with self.subTest(name=name):
                self.assertEqual(getattr(errors, name).__bases__, (HallError,))

    def test_each_is_a_class_of_its_own_under_its_own_name(self):
        for name in REFUSALS + ("HallError",):
            with self.subTest(name=name):
                self.assertEqual(getattr(errors, name).__name__, name)
        self.assertEqual(len({getattr(errors, name) for name in REFUSALS}), len(REFUSALS))

    def test_each_is_taken_by_its_own_name_and_as_any_refusal(self):
        for name in REFUSALS:
            own = getattr(errors, name)
            for taken in (own, HallError, ValueError):
                with self.subTest(name=name, taken=taken.__name__):
                    with self.assertRaises(taken):
                        raise own(3)

    def test_none_is_taken_by_another_name(self):
        for name in REFUSALS:
            for other in REFUSALS:
                if other != name:
                    with self.subTest(name=name, other=other):
                        self.assertFalse(issubclass(getattr(errors, name), getattr(errors, other)))

    def test_no_ask_has_the_place(self):
        for at in (0, 1, 7, 2000):
            self.assertEqual(NoAsk(at).at, at)
        self.assertEqual(NoAsk(at=5).at, 5)

    def test_bad_kept_has_the_row(self):
        for row in (0, 1, 7, 2000):
            self.assertEqual(BadKept(row).row, row)
        self.assertEqual(BadKept(row=5).row, 5)

    def test_the_fields_are_there_when_they_are_taken(self):
        with self.assertRaises(HallError) as taken:
            raise NoAsk(4)
        self.assertEqual(taken.exception.at, 4)
        with self.assertRaises(HallError) as taken:
            raise BadKept(6)
        self.assertEqual(taken.exception.row, 6)

    def test_the_fields_are_each_object_s_own(self):
        one, other = NoAsk(1), NoAsk(2)
        self.assertEqual((one.at, other.at), (1, 2))
        first, second = BadKept(3), BadKept(4)
        self.assertEqual((first.row, second.row), (3, 4))

    def test_a_refusal_may_have_words(self):
        self.assertIsInstance(BadText("no text"), HallError)


if __name__ == "__main__":
    unittest.main()
