"""handlesagain/texts.py."""

import unittest

from helpers import Case, others

from handlesagain.errors import InvalidText
from handlesagain.programs import Program, Sort
from handlesagain.texts import read, write

REST = ("rest",)

FULL = Program(
    Sort("all", [("open", "v"), ("close", "c"), ("renew", "w"), ("use", "v"), ("set", "w", "d"), ("drop", "c"),
                 ("lock", "k"), ("unlock", "l"), ("go", 0, 10, 3, 1), REST], own=["v", "w"]),
    Sort("b", [("go", 1), ("go", 0, 2)]),
    Sort("abcdefgh", [("set", "v", "v")], own=["v"]),
    common=["c", "d"], locks=["k", "l"])

FULL_TEXT = "\n".join([
    "common c d", "locks k l",
    "sort all v w", "  open v", "  close c", "  renew w", "  use v", "  set w d", "  drop c", "  lock k", "  unlock l",
    "  go 0 10 3 1", "  rest",
    "sort b", "  go 1", "  go 0 2",
    "sort abcdefgh v", "  set v v"])

PAIR_TEXT = "common c\nsort giver\n  open c\n  close c\nsort user v\n  set v c\n  use v"

WRITTEN = [
    (Program.pair(), PAIR_TEXT),
    (FULL, FULL_TEXT),
    (Program(Sort("a", [REST])), "sort a\n  rest"),
    (Program(Sort("a", [REST], own=["w", "v"])), "sort a w v\n  rest"),
    (Program(Sort("a", [REST]), common=["d", "c"]), "common d c\nsort a\n  rest"),
    (Program(Sort("a", [REST]), locks=["l", "k"]), "locks l k\nsort a\n  rest"),
    (Program(Sort("a", [REST]), common=["c"], locks=["k"]), "common c\nlocks k\nsort a\n  rest"),
    (Program(Sort("b", [REST]), Sort("a", [REST, REST])), "sort b\n  rest\nsort a\n  rest\n  rest"),
    (Program(Sort("sort", [("use", "common"), ("use", "locks"), ("lock", "lock")], own=["locks", "go"]),
             common=["common", "sort"], locks=["lock", "rest"]),
     "common common sort\nlocks lock rest\nsort sort locks go\n  use common\n  use locks\n  lock lock"),
    (Program(Sort("common", [REST]), Sort("locks", [REST])), "sort common\n  rest\nsort locks\n  rest"),
]

NO_TEXTS = [
    "", "\n", " ", "sort", "sort ", "sort a", "sort a\n", "sort a\n ", "sort a\n  ", "common c", "common c\nlocks k",
    "sort a\nrest", "sort a\n rest", "sort a\n   rest", "sort a\n\trest", "sort a\n  rest ", "sort a\n  rest\n",
    "\nsort a\n  rest", " sort a\n  rest", "sort a \n  rest", "sort  a\n  rest", "sort a\n\n  rest",
    "sort a\n  rest\n\n  rest", "sort a\n  rest\r", "sort a\r\n  rest", "sort a\n  rest\n\n", "  rest\nsort a\n  rest",
    "sort a v w x\n  rest", "sort a v v\n  rest", "sort A\n  rest", "sort a V\n  rest", "sort abcdefghi\n  rest",
    "sort a v \n  rest", "sort a  v\n  rest", "sort a, v\n  rest", "sorts a\n  rest", "Sort a\n  rest", "a\n  rest",
    "sort a\n  open", "sort a v\n  open v v", "sort a v\n  open  v", "sort a v\n  open v ", "sort a v\n  Open v",
    "sort a v\n  open V", "sort a v\n  open w", "sort a v\n  openv", "sort a v\n  open 0", "sort a v\n  set v",
    "sort a v\n  set v v v", "sort a\n  rest v", "sort a\n  rest rest", "sort a\n  rest 0", "sort a\n  lock k",
    "sort a\n  go", "sort a\n  go ", "sort a\n  go 2", "sort a\n  go 00", "sort a\n  go 01", "sort a\n  go 001",
    "sort a\n  go +1", "sort a\n  go -1", "sort a\n  go -0", "sort a\n  go 1.", "sort a\n  go 1_0", "sort a\n  go 0x1",
    "sort a\n  go a", "sort a\n  go True", "sort a\n  go 0 0 0 0 0", "sort a\n  go 0  1", "sort a\n  go 0,1",
    "sort a\n  go 0 01", "sort a\n  go 11", "sort a\n  go 100", "sort a\n  go " + "9" * 15000,
    "sort a\n  go " + "0" * 15000 + "1", "sort a\n  go " + "9" * 199, "sort a\n  go \u0661", "sort a\n  go \u00b2",
    "common\nsort a\n  rest", "common \nsort a\n  rest", "locks\nsort a\n  rest", "locks \nsort a\n  rest",
    "common c \nsort a\n  rest", "common  c\nsort a\n  rest", " common c\nsort a\n  rest",
    "common c d e\nsort a\n  rest",
    "common c c\nsort a\n  rest", "common C\nsort a\n  rest", "Common c\nsort a\n  rest", "commons c\nsort a\n  rest",
    "locks k l m\nsort a\n  rest", "locks k k\nsort a\n  rest", "lock k\nsort a\n  rest", "locks k \nsort a\n  rest",
    "common c\nlocks c\nsort a\n  rest", "common c\nsort a c\n  rest", "locks k\nsort a k\n  rest",
    "locks k\ncommon c\nsort a\n  rest", "sort a\n  rest\ncommon c", "sort a\n  rest\nlocks k",
    "common c\nsort a\n  rest\nlocks k", "common c\ncommon c\nsort a\n  rest", "common c\ncommon d\nsort a\n  rest",
    "locks k\nlocks k\nsort a\n  rest", "locks k\nlocks l\nsort a\n  rest", "common c\n\nsort a\n  rest",
    "sort a\n  rest\nsort a\n  rest", "sort a\nsort b\n  rest", "sort a\n  rest\nsort b", "sort a\n  rest\nrest",
    "sort a\n  rest\nsort b\n  rest\nsort c\n  rest\nsort d\n  rest", "sort a" + "\n  rest" * 11,
    "sort a" + "\n  rest" * 2000, "sort a\n  rest\n" * 1000, "common c\n" * 2000, "a" * 20000,
    " " * 20000, "\n" * 20000,
    "sort a\n  sort a", "common c\n  rest\nsort a\n  rest", "x\nsort a\n  rest", "sort a\n  rest\nx",
    "sort a\n  rest\n# b", "sort a; rest", "sort a\n  ('rest',)",
]


class TestExample(unittest.TestCase):
    def test_the_example_of_the_document(self):
        text = write(Program.pair())
        self.assertEqual([text, read(text) == Program.pair()], [PAIR_TEXT, True])


class TestWrite(unittest.TestCase):
    def test_texts_of_programs(self):
        for program, text in WRITTEN:
            self.assertIs(type(write(program)), str)
            self.assertEqual(write(program), text)

    def test_the_parameter_is_called_program(self):
        self.assertEqual(write(program=FULL), FULL_TEXT)

    def test_numbers_up_to_ten(self):
        sort = Sort("a", [("go", at) for at in range(1, 11)])
        text = "sort a\n" + "\n".join([f"  go {at}" for at in range(1, 11)])
        self.assertEqual(write(Program(sort)), text)
        self.assertEqual(read(text), Program(sort))


class TestRead(Case):
    def test_texts_that_were_written(self):
        for program, text in WRITTEN:
            told = read(text)
            self.assertIs(type(told), Program)
            self.assertEqual(told, program)

    def test_the_parameter_is_called_text(self):
        self.assertEqual(read(text=FULL_TEXT), FULL)

    def test_the_row_numbers_are_integers(self):
        row = read("sort a\n  go 0 1")["a"][0]
        self.assertEqual([type(item) for item in row], [str, int, int])

    def test_texts_that_are_none(self):
        for text in NO_TEXTS:
            self.refused(InvalidText, text, read, text)

    def test_values_that_are_no_strings(self):
        for value in others() + [b"sort a\n  rest", ["sort a", "  rest"], ("sort a\n  rest",), FULL, Sort, 0, 1]:
            self.refused(InvalidText, value, read, value)


class TestNearlyTexts(unittest.TestCase):
    def is_read_back(self, text):
        """Whether a text is one of a program; if so, it is just what is written of that program."""
        try:
            program = read(text)
        except InvalidText as error:
            self.assertIs(error.value, text)
            return False
        self.assertEqual(write(program), text)
        return True

    def test_one_sign_too_few(self):
        told = [self.is_read_back(FULL_TEXT[:at] + FULL_TEXT[at + 1:]) for at in range(len(FULL_TEXT))]
        # Shorter names of sorts are names, too.
        self.assertIn(True, told)
        self.assertIn(False, told)

    def test_one_sign_too_many(self):
        for sign in " \n\t\rav0A-_.,;":
            for at in range(len(FULL_TEXT) + 1):
                self.is_read_back(FULL_TEXT[:at] + sign + FULL_TEXT[at:])

    def test_a_line_feed_or_a_tab_too_many(self):
        for sign in "\n\t":
            for at in range(len(PAIR_TEXT) + 1):
                self.assertFalse(self.is_read_back(PAIR_TEXT[:at] + sign + PAIR_TEXT[at:]), (sign, at))

    def test_a_blank_too_many(self):
        told = [at for at in range(len(PAIR_TEXT) + 1) if self.is_read_back(PAIR_TEXT[:at] + " " + PAIR_TEXT[at:])]
        # Only within the names of sorts: what is behind the blank is an own variable then.
        giver, user = PAIR_TEXT.index("giver"), PAIR_TEXT.index("user")
        self.assertEqual(told, [*range(giver + 1, giver + 5), *range(user + 1, user + 4)])

    def test_a_blank_or_a_line_feed_too_few_is_never_right(self):
        for at in range(len(PAIR_TEXT)):
            if PAIR_TEXT[at] in " \n":
                self.assertFalse(self.is_read_back(PAIR_TEXT[:at] + PAIR_TEXT[at + 1:]), at)

    def test_exchanged_signs(self):
        for at in range(len(FULL_TEXT) - 1):
            one, other = FULL_TEXT[at], FULL_TEXT[at + 1]
            self.is_read_back(FULL_TEXT[:at] + other + one + FULL_TEXT[at + 2:])
        for sign in " \nvz09A":
            for at in range(len(FULL_TEXT)):
                self.is_read_back(FULL_TEXT[:at] + sign + FULL_TEXT[at + 1:])

    def test_lines_left_out(self):
        lines = FULL_TEXT.split("\n")
        for at in range(len(lines)):
            left = lines[:at] + lines[at + 1:]
            self.is_read_back("\n".join(left))
        for at in [0, 1, 2]:
            self.assertFalse(self.is_read_back("\n".join(lines[:at] + lines[at + 1:])), at)

    def test_lines_twice(self):
        lines = PAIR_TEXT.split("\n")
        told = [self.is_read_back("\n".join(lines[:at] + lines[at:at + 1] + lines[at:])) for at in range(len(lines))]
        self.assertEqual(told, [line.startswith("  ") for line in lines])

    def test_lines_exchanged(self):
        lines = FULL_TEXT.split("\n")
        for one in range(len(lines)):
            for other in range(one):
                mixed = list(lines)
                mixed[one], mixed[other] = lines[other], lines[one]
                self.is_read_back("\n".join(mixed))

    def test_row_numbers_with_leading_zeros(self):
        for word in ["0", "10", "3", "1"]:
            text = FULL_TEXT.replace("go 0 10 3 1", "go " + " ".join(
                ["0" + number if number == word else number for number in ["0", "10", "3", "1"]]))
            self.assertFalse(self.is_read_back(text))


if __name__ == "__main__":
    unittest.main()
