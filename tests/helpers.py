"""What several tests need."""

import unittest


class Stubborn:
    """An object that bears no comparison and cannot be hashed."""

    __hash__ = None

    def __eq__(self, other):
        raise RuntimeError("compared")


class Case(unittest.TestCase):
    def refused(self, kind, value, call, *args, **more):
        """The call raises just this kind of error, and the error keeps this very value."""
        error = self.error_of(kind, call, *args, **more)
        self.assertTrue(error.value is value, f"the error keeps {error.value!r}")

    def refused_like(self, kind, value, call, *args, **more):
        """The call raises just this kind of error, with an equal value of the same type."""
        error = self.error_of(kind, call, *args, **more)
        self.assertIs(type(error.value), type(value))
        self.assertEqual(error.value, value)

    def error_of(self, kind, call, *args, **more):
        with self.assertRaises(kind) as caught:
            call(*args, **more)
        self.assertIs(type(caught.exception), kind)
        return caught.exception


def others():
    """Objects of many kinds: none is a string, a number of a row, a tuple that is a row, a sort or a program."""
    return [None, True, False, -1, 10 ** 30, b"a", [], {}, set(), {"a": 1}, (), ((),), ([],), (None,), object(),
            Stubborn(), [Stubborn()], (Stubborn(),), len, ValueError]
