"""The interface of handlesagain/errors.py."""

import unittest

from helpers import others

from handlesagain import errors

KEEPERS = ["InvalidNumber", "InvalidName", "InvalidRow", "InvalidSort", "InvalidProgram", "InvalidText",
           "InvalidBook", "InvalidHands", "InvalidStep", "InvalidEdit", "InvalidCommand"]
ALL = KEEPERS + ["TooMany", "NothingToUndo"]


def made(name):
    kind = getattr(errors, name)
    return kind() if name == "NothingToUndo" else kind(5)


class TestFields(unittest.TestCase):
    def test_the_value_is_kept_itself_by_position(self):
        for name in KEEPERS:
            for value in others():
                self.assertTrue(getattr(errors, name)(value).value is value, name)

    def test_the_value_is_kept_itself_by_name(self):
        for name in KEEPERS:
            for value in others():
                self.assertTrue(getattr(errors, name)(value=value).value is value, name)

    def test_the_limit_is_kept_itself(self):
        for value in others() + [60, 1000]:
            self.assertTrue(errors.TooMany(value).limit is value)
            self.assertTrue(errors.TooMany(limit=value).limit is value)

    def test_a_later_change_of_the_value_is_seen(self):
        rows = [1]
        error = errors.InvalidRow(rows)
        rows.append(2)
        self.assertEqual(error.value, [1, 2])

    def test_nothing_to_undo_has_no_field(self):
        self.assertEqual(vars(errors.NothingToUndo()), {})


class TestBases(unittest.TestCase):
    def test_the_base_is_a_value_error(self):
        self.assertTrue(issubclass(errors.HandleError, ValueError))

    def test_those_with_a_value_are_handle_errors(self):
        for name in KEEPERS:
            self.assertTrue(issubclass(getattr(errors, name), errors.HandleError), name)

    def test_too_many_is_an_overflow_error_only(self):
        self.assertTrue(issubclass(errors.TooMany, OverflowError))
        self.assertFalse(issubclass(errors.TooMany, ValueError))

    def test_nothing_to_undo_is_a_lookup_error_only(self):
        self.assertTrue(issubclass(errors.NothingToUndo, LookupError))
        self.assertFalse(issubclass(errors.NothingToUndo, ValueError))

    def test_each_is_caught_by_the_base_or_not(self):
        for name in ALL:
            self.assertEqual(isinstance(made(name), errors.HandleError), name in KEEPERS, name)

    def test_no_handler_of_another_error_catches_it(self):
        for name in ALL:
            for other in ALL:
                self.assertEqual(isinstance(made(name), getattr(errors, other)), name == other, (name, other))

    def test_each_can_be_raised_and_caught(self):
        for name in ALL:
            with self.assertRaises(getattr(errors, name)):
                raise made(name)


if __name__ == "__main__":
    unittest.main()
