"""What the tests hand in where something else is wanted, and how they look at a refusal."""
import unittest

from findhall.errors import HallError

# Python itself writes no number that is so great.
GREAT_NUMBER = 10 ** 5000


class Thing:
    """A thing that lets nobody look at it."""

    def fail(self, *others):
        raise RuntimeError("this was looked at")

    __eq__ = __lt__ = __gt__ = __len__ = __iter__ = __bool__ = __repr__ = __str__ = __hash__ = fail


def no_whole_numbers():
    return [
        True, False, None, "", "1", "a", [], [1], (), (1,), (1, 2), {}, {1: 1}, {1}, 1.0, 0.0, b"", b"1", object(),
        Thing(), len, int, range(3),
    ]


def no_lists():
    return [
        None, 0, 1, 5, -1, 255, GREAT_NUMBER, True, False, "", "5", "abc", (), (5,), (172, 2), (0, 0, 0), ((2, (0,)),),
        {}, {5: 5}, {0: 5}, {2: (0, 3)}, {5}, 1.5, b"", b"\x05", b"\x00\x00\x00", bytearray(b"\x05"), range(3),
        iter([0, 0, 0]), iter([(2, (0,))]), object(), Thing(), list, len,
    ]


class RefusalCase(unittest.TestCase):
    def check_refused(self, refusal, call, *handed):
        with self.assertRaises(HallError) as caught:
            call(*handed)
        self.assertIs(type(caught.exception), refusal)
        self.assertIsInstance(caught.exception, ValueError)
