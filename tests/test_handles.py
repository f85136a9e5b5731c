"""The class Handle of handlesagain/handles.py."""

import unittest

from helpers import Case, others

from handlesagain.errors import InvalidNumber
from handlesagain.handles import Handle

LONG = 10 ** 29 + 7
WRONG = [-1, -LONG, True, False, "0", "a", b"0", (0,), [0]]


def wrong_numbers():
    return WRONG + [value for value in others() if type(value) is not int]


class TestExample(unittest.TestCase):
    def test_the_example_of_the_document(self):
        told = [Handle(3, 1).text, Handle(0, 1, entry=5) == Handle(0, 1), Handle(0, 1) == Handle(0)]
        self.assertEqual(told, ["3.1", True, False])


class TestMaking(Case):
    def test_properties(self):
        for number in [0, 1, 9, 59, 60, LONG]:
            for turn in [0, 1, 3, 4, LONG]:
                for entry in [0, 1, 2000, LONG]:
                    handle = Handle(number, turn, entry=entry)
                    self.assertEqual((handle.number, handle.turn, handle.entry), (number, turn, entry))

    def test_turn_and_entry_are_0_if_they_are_not_told(self):
        self.assertEqual((Handle(7).number, Handle(7).turn, Handle(7).entry), (7, 0, 0))
        self.assertEqual((Handle(7, 2).turn, Handle(7, 2).entry), (2, 0))
        self.assertEqual((Handle(7, entry=2).turn, Handle(7, entry=2).entry), (0, 2))

    def test_arguments_by_name(self):
        handle = Handle(entry=3, turn=2, number=1)
        self.assertEqual((handle.number, handle.turn, handle.entry), (1, 2, 3))

    def test_entry_only_by_name(self):
        with self.assertRaises(TypeError):
            Handle(1, 2, 3)

    def test_the_number_is_needed(self):
        with self.assertRaises(TypeError):
            Handle()

    def test_properties_cannot_be_assigned(self):
        for name in ["number", "turn", "entry", "text"]:
            with self.assertRaises(AttributeError):
                setattr(Handle(1), name, 0)


class TestErrors(Case):
    def test_wrong_numbers(self):
        for value in wrong_numbers():
            self.refused(InvalidNumber, value, Handle, value)

    def test_wrong_turns(self):
        for value in wrong_numbers():
            self.refused(InvalidNumber, value, Handle, 0, value)

    def test_wrong_entries(self):
        for value in wrong_numbers():
            self.refused(InvalidNumber, value, Handle, 0, 0, entry=value)

    def test_the_number_is_told_ahead_of_the_turn_and_this_ahead_of_the_entry(self):
        self.refused(InvalidNumber, -1, Handle, -1, -2, entry=-3)
        self.refused(InvalidNumber, -2, Handle, 1, -2, entry=-3)
        self.refused(InvalidNumber, -3, Handle, 1, 2, entry=-3)
        self.refused(InvalidNumber, None, Handle, None, True, entry="x")
        self.refused(InvalidNumber, True, Handle, 0, True, entry="x")


class TestText(unittest.TestCase):
    def test_number_dot_turn(self):
        self.assertEqual(Handle(0).text, "0.0")
        self.assertEqual(Handle(59, 3, entry=8).text, "59.3")
        self.assertEqual(Handle(10, 20).text, "10.20")

    def test_numbers_of_thirty_digits(self):
        self.assertEqual(Handle(LONG, LONG + 1, entry=5).text, f"{LONG}.{LONG + 1}")


class TestEquality(unittest.TestCase):
    def test_entries_do_not_count(self):
        for number in [0, 5, LONG]:
            for turn in [0, 1, LONG]:
                self.assertTrue(Handle(number, turn, entry=3) == Handle(number, turn, entry=4))
                self.assertFalse(Handle(number, turn, entry=3) != Handle(number, turn, entry=4))

    def test_numbers_and_turns_count(self):
        for one, other in [(Handle(1), Handle(2)), (Handle(1, 1), Handle(1, 2)), (Handle(1, 2), Handle(2, 1)),
                           (Handle(LONG), Handle(LONG + 1)), (Handle(0, LONG), Handle(0, LONG + 1)),
                           (Handle(1, 0, entry=4), Handle(1, 1, entry=4))]:
            self.assertFalse(one == other)
            self.assertTrue(one != other)

    def test_objects_of_other_classes(self):
        for other in [None, 1, True, "1.0", (1, 0), (1, 0, 0), [1, 0], object(), Handle]:
            self.assertFalse(Handle(1) == other)
            self.assertTrue(Handle(1) != other)


if __name__ == "__main__":
    unittest.main()
