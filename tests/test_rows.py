"""WORDS and is_row of handlesagain/programs.py."""

import unittest

from helpers import others

from handlesagain.programs import WORDS, is_row

ONE_NAME = ["open", "close", "renew", "use", "drop", "lock", "unlock"]
NAMES = ["a", "z", "v", "az", "handle", "abcdefgh", "zzzzzzzz", "open", "go"]
NO_NAMES = ["", "abcdefghi", "A", "V", "aB", "v1", "1", "v_", "_", "v ", " v", " ", "a b", "a-", "v\n", "\n", "`", "{",
            "@", "[", "\u00e4", "\u0430"]


class TestWords(unittest.TestCase):
    def test_the_ten_words_in_order(self):
        self.assertIs(type(WORDS), tuple)
        self.assertEqual(WORDS, ("open", "close", "renew", "use", "set", "drop", "lock", "unlock", "go", "rest"))


class TestIsRow(unittest.TestCase):
    def holds(self, value):
        self.assertIs(is_row(value), True, value)

    def fails(self, value):
        self.assertIs(is_row(value), False)

    def test_each_form(self):
        for word in ONE_NAME:
            self.holds((word, "v"))
        self.holds(("set", "w", "v"))
        self.holds(("go", 0))
        self.holds(("rest",))

    def test_the_parameter_is_called_value(self):
        self.assertIs(is_row(value=("rest",)), True)

    def test_names_of_1_to_8_letters(self):
        for name in NAMES:
            for word in ONE_NAME:
                self.holds((word, name))
            self.holds(("set", name, "v"))
            self.holds(("set", "v", name))
            self.holds(("set", name, name))

    def test_what_is_no_name(self):
        for name in NO_NAMES + others() + [["v"], ("v",), b"v", 0, 1]:
            for word in ONE_NAME:
                self.fails((word, name))
            self.fails(("set", name, "v"))
            self.fails(("set", "v", name))

    def test_every_letter_is_one_of_a_name(self):
        for letter in "abcdefghijklmnopqrstuvwxyz":
            self.holds(("use", letter))
            self.fails(("use", letter.upper()))

    def test_missing_items(self):
        for word in WORDS:
            if word != "rest":
                self.fails((word,))
        self.fails(("set", "v"))
        self.fails(())
        self.fails(("v",))

    def test_extra_items(self):
        for word in ONE_NAME:
            self.fails((word, "v", "v"))
            self.fails((word, "v", None))
            self.fails((word, "v", 0))
        self.fails(("set", "w", "v", "v"))
        for item in ["v", "", 0, None, ()]:
            self.fails(("rest", item))

    def test_go_has_one_to_four_rows(self):
        self.fails(("go",))
        self.holds(("go", 0))
        self.holds(("go", 0, 1))
        self.holds(("go", 0, 1, 2))
        self.holds(("go", 0, 1, 2, 3))
        self.fails(("go", 0, 1, 2, 3, 4))
        self.holds(("go", 1, 1, 0, 1))

    def test_go_takes_counts_of_any_size(self):
        for number in [0, 1, 9, 10, 11, 99, 10 ** 100]:
            self.holds(("go", number))

    def test_go_takes_nothing_but_counts(self):
        for item in [True, False, -1, -10 ** 100, "0", "a", "", (0,), [0], None, b"0"]:
            self.fails(("go", item))
            self.fails(("go", 0, item))
            self.fails(("go", item, 0))
            self.fails(("go", 0, 1, 2, item))

    def test_numbers_are_no_names_and_names_no_numbers(self):
        self.fails(("go", "v"))
        self.fails(("use", 0))
        self.fails(("set", 0, 1))

    def test_lists_are_no_rows(self):
        for row in [["open", "v"], ["set", "w", "v"], ["go", 0], ["rest"]]:
            self.fails(row)

    def test_words_that_are_none(self):
        for word in ["", "Open", "OPEN", "opens", "ope", "end", "start", " open", "open ", "v", "w", "a", "o"]:
            self.fails((word,))
            self.fails((word, "v"))
            self.fails((word, "w", "v"))
            self.fails((word, 0))

    def test_words_of_other_kinds(self):
        for word in others() + [0, 1, b"open", ["open"], ("open",)]:
            self.fails((word, "v"))
            self.fails((word,))

    def test_values_of_other_kinds(self):
        for value in others() + ["open", "rest", "go", 0, 1, {"rest"}, {"rest": 0}, {"open": "v"}, "open v"]:
            self.fails(value)

    def test_tuples_within_tuples(self):
        self.fails((("rest",),))
        self.fails(("open", ("v",)))
        self.fails(("go", (0, 1)))


if __name__ == "__main__":
    unittest.main()
