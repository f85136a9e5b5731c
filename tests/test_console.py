"""handlesagain/console.py."""

import unittest
from unittest import mock

from helpers import WIDE, Case, all_programs, others, programs

from handlesagain import searches
from handlesagain.benches import Bench
from handlesagain.console import Console
from handlesagain.crowds import Crowd
from handlesagain.errors import (InvalidBook, InvalidCommand, InvalidHands, InvalidNumber, InvalidStep, InvalidText,
                                 NothingToUndo, TooMany)
from handlesagain.plays import Play
from handlesagain.programs import Program
from handlesagain.searches import shortest_fault
from handlesagain.texts import read, write
from handlesagain.verdicts import is_right, least_turns, shortest_length

PAIR = Program.pair()
LOAD = "load common c; sort giver;   open c;   close c; sort user v;   set v c;   use v"
BENCH = "bench 4 least 1 giver giver user"

# A right program, so that each verdict has another answer.
ALONE = "load sort a v;   open v;   use v;   close v"

# Commands that need a bench, and those that need a program alone.
OF_BENCH = ["step 0 0", "undo", "words", "fault"]
OF_PROGRAM = ["show", "right 1", "length 1", "turns", BENCH]


def line_of(program):
    return "load " + write(program).replace("\n", "; ")


def at_console(*lines):
    console = Console()
    for line in lines:
        console.run(line)
    return console


def state(console):
    """All that a console tells of what it has."""
    found = []
    for line in ["show", "words", "fault"]:
        try:
            found.append(console.run(line))
        except InvalidCommand:
            found.append(None)
    return found


class TestExample(unittest.TestCase):
    def test_the_example_of_the_document(self):
        console = Console()
        lines = ["load common c; sort giver;   open c;   close c; sort user v;   set v c;   use v"]
        lines = lines + ["bench 4 least 1 giver giver user", "fault", "step 0 0", "right 1", "length 2", "turns"]
        self.assertEqual([console.run(line) for line in lines],
                         ["ok", "ok", "0.0 0.0 2.0 1.0 2.0", "done", "no", "7", "-"])


class ConsoleCase(Case):
    def no_command(self, console, line):
        """The line is refused, and nothing changes."""
        before = state(console)
        self.refused(InvalidCommand, line, console.run, line)
        self.assertEqual(state(console), before)


class TestCommands(ConsoleCase):
    def test_answers_are_strings(self):
        console = Console()
        for line in [LOAD, *OF_PROGRAM, *OF_BENCH[:1], "words", "fault", "undo"]:
            self.assertIs(type(console.run(line=line)), str)

    def test_load_and_show(self):
        for program in all_programs():
            console = Console()
            line = line_of(program)
            self.assertEqual(console.run(line), "ok")
            self.assertEqual(console.run("show"), line[5:])

    def test_load_takes_the_place_of_the_program_and_the_bench(self):
        console = at_console(LOAD, BENCH, "step 0 0")
        self.assertEqual(console.run(ALONE), "ok")
        self.assertEqual(console.run("show"), ALONE[5:])
        for line in OF_BENCH:
            self.no_command(console, line)
        console.run("bench 1 any 1 a")
        self.assertEqual(console.run("words"), "-")
        self.error_of(NothingToUndo, console.run, "undo")

    def test_the_same_program_again(self):
        console = at_console(LOAD, BENCH, "step 0 0", LOAD)
        self.no_command(console, "words")

    def test_texts_of_no_program(self):
        console = at_console(LOAD, BENCH, "step 0 0")
        before = state(console)
        for text, value in [("", ""), (" ", " "), ("sort a", "sort a"), ("sort a;   rest; ", "sort a\n  rest\n"),
                            ("sort a;  rest", "sort a\n rest"), ("sort a;rest", "sort a;rest"),
                            ("sort a;;   rest", "sort a;\n  rest"), (" sort a;   rest", " sort a\n  rest"),
                            (";", ";"), ("; ", "\n"), ("; ; ", "\n\n"), (";  ;  ", "\n \n "), ("load", "load"),
                            ("sort a;    rest", "sort a\n   rest"), ("sort a;   rest ", "sort a\n  rest ")]:
            self.refused_like(InvalidText, value, console.run, "load " + text)
            self.refused_like(InvalidText, value, Console().run, "load " + text)
        self.assertEqual(state(console), before)
        self.assertEqual(console.run("undo"), "ok")

    def test_bench(self):
        for size, book, turns in [(1, "any", 1), (4, "next", 2), (60, "last", 4), (2, "least", 3)]:
            console = at_console(LOAD)
            self.assertEqual(console.run(f"bench {size} {book} {turns} giver user giver"), "ok")
            run = shortest_fault(Bench(PAIR, "giver", "user", "giver", size=size, book=book, turns=turns))
            expected = "-" if run is None else " ".join(f"{hand}.{choice}" for hand, choice in run)
            self.assertEqual(console.run("fault"), expected)
            self.assertEqual(console.run("words"), "-")
        self.assertEqual(at_console(LOAD).run("bench 1 any 1 user"), "ok")
        self.assertEqual(at_console(LOAD).run("bench 1 any 1" + " user" * 30), "ok")

    def test_bench_begins_anew(self):
        console = at_console(LOAD, BENCH, "step 0 0", "step 0 0")
        self.assertEqual(console.run(BENCH), "ok")
        self.assertEqual(console.run("words"), "-")
        self.error_of(NothingToUndo, console.run, "undo")

    def test_the_errors_of_a_bench(self):
        console = at_console(LOAD, BENCH, "step 0 0")
        before = state(console)
        for line, kind, value in [
                ("bench 0 least 1 user", InvalidNumber, 0), ("bench 61 least 1 user", InvalidNumber, 61),
                ("bench 4 least 0 user", InvalidNumber, 0), ("bench 4 least 5 user", InvalidNumber, 5),
                ("bench 4 other 1 user", InvalidBook, "other"), ("bench 4 4 1 user", InvalidBook, "4"),
                ("bench 4 least 1 nobody", InvalidHands, ("nobody",)),
                ("bench 4 any 1 user 1", InvalidHands, ("user", "1")),
                ("bench 0 other 0 nobody", InvalidHands, ("nobody",)), ("bench 0 other 0 user", InvalidNumber, 0),
                ("bench 1 other 0 user", InvalidBook, "other"), ("bench 4 any 1 Giver", InvalidHands, ("Giver",)),
                (f"bench {'9' * 30} any 1 user", InvalidNumber, int("9" * 30)),
                (f"bench 1 any {'1' * 30} user", InvalidNumber, int("1" * 30))]:
            self.refused_like(kind, value, console.run, line)
        self.error_of(InvalidHands, console.run, "bench 1 any 1" + " user" * 31)
        self.assertEqual(state(console), before)
        self.assertEqual(console.run("undo"), "ok")

    def test_lines_that_are_no_bench(self):
        console = at_console(LOAD)
        for line in ["bench", "bench ", "bench 4", "bench 4 least", "bench 4 least 1", "bench least 4 1 user",
                     "bench 04 least 1 user", "bench 4 least 01 user", "bench -4 least 1 user", "bench +4 least 1 user",
                     "bench 4 least one user", "bench four least 1 user", "bench  4 least 1 user",
                     "Bench 4 least 1 user",
                     "bench 4 least -1 user", "bench 4.0 least 1 user", "bench 4 least user user",
                     f"bench {'1' * 31} least 1 user", f"bench 4 least {'1' * 31} user", "bench 4 least 1_0 user"]:
            self.no_command(console, line)

    def test_step_words_and_undo(self):
        console, play = at_console(LOAD, "bench 4 any 1 giver giver user"), Play(Bench(PAIR, "giver", "giver", "user"))
        self.assertEqual(console.run("words"), "-")
        for hand, choice in [(0, 3), (0, 0), (2, 0), (1, 3), (2, 0)]:
            self.assertEqual(console.run(f"step {hand} {choice}"), play.step(hand, choice))
            self.assertEqual(console.run("words"), " ".join(play.words))
        self.assertEqual(console.run("words"), "done done done done fault")
        for many in [4, 3, 2, 1]:
            self.assertEqual(console.run("undo"), "ok")
            self.assertEqual(console.run("words"), " ".join(["done"] * many))
        self.assertEqual(console.run("undo"), "ok")
        self.assertEqual(console.run("words"), "-")
        self.error_of(NothingToUndo, console.run, "undo")
        self.assertEqual(console.run("step 1 0"), "done")

    def test_refused_is_a_word(self):
        console = at_console(LOAD, "bench 1 any 1 user giver giver")
        words = [console.run(f"step {hand} 0") for hand in [0, 0, 1, 2]]
        self.assertEqual(words, ["done", "refused", "done", "refused"])
        self.assertEqual(console.run("words"), "done refused done refused")

    def test_steps_that_cannot_be_made(self):
        console = at_console(LOAD, BENCH, "step 0 0")
        before = state(console)
        for hand, choice in [(3, 0), (0, 1), (1, 4), (int("9" * 30), 0), (0, int("1" * 30))]:
            self.refused_like(InvalidStep, (hand, choice), console.run, f"step {hand} {choice}")
        self.assertEqual(state(console), before)
        self.assertEqual(console.run("undo"), "ok")

    def test_lines_that_are_no_step(self):
        console = at_console(LOAD, BENCH)
        for line in ["step", "step ", "step 0", "step 0 ", "step 0 0 ", "step 0 0 0", "step  0 0", "step 0  0",
                     " step 0 0",
                     "step 00 0", "step 0 00", "step 01 0", "step 0 01", "step -1 0", "step 0 -1", "step +0 0",
                     "step 0 +0", "step a 0", "step 0 b", "step 0.0", "step 0 0.", "step 1e1 0", "step 1_0 0",
                     f"step {'1' * 31} 0", f"step 0 {'1' * 31}", f"step 0 {'0' * 30}", "STEP 0 0", "step0 0"]:
            self.no_command(console, line)

    def test_fault(self):
        self.assertEqual(at_console(LOAD, BENCH, "step 1 0").run("fault"), "0.0 0.0 2.0 1.0 2.0")
        self.assertEqual(at_console(LOAD, "bench 4 next 1 giver giver user").run("fault"), "-")
        for program in programs():
            for names in [[program.sorts[0].name], [sort.name for sort in program.sorts]]:
                bench = Bench(program, *names, size=2)
                run = shortest_fault(bench)
                expected = "-" if run is None else " ".join(f"{hand}.{choice}" for hand, choice in run)
                console = at_console(line_of(program), "bench 2 any 1 " + " ".join(names))
                self.assertEqual(console.run("fault"), expected)

    def test_verdicts(self):
        for program in all_programs()[::2]:
            console = at_console(line_of(program))
            for turns in [1, 2]:
                crowd = Crowd(program, turns=turns)
                self.assertEqual(console.run(f"right {turns}"), "yes" if is_right(crowd) else "no")
                length = shortest_length(crowd)
                self.assertEqual(console.run(f"length {turns}"), "-" if length is None else str(length))
            try:
                least = least_turns(program)
            except TooMany:
                self.error_of(TooMany, console.run, "turns")
            else:
                self.assertEqual(console.run("turns"), "-" if least is None else str(least))

    def test_verdicts_on_a_right_program(self):
        console = at_console(ALONE)
        lines = ["right 1", "right 4", "length 1", "length 4", "turns"]
        self.assertEqual([console.run(line) for line in lines], ["yes", "yes", "-", "-", "1"])
        console = at_console("load locks k; sort a v w;   lock k;   open v;   set w v;   renew v;   use w;   unlock k")
        self.assertEqual([console.run(line) for line in lines], ["no", "yes", "5", "-", "2"])

    def test_wrong_turns(self):
        console = at_console(LOAD)
        for turns in [0, 5, 10, int("9" * 30)]:
            self.refused_like(InvalidNumber, turns, console.run, f"right {turns}")
            self.refused_like(InvalidNumber, turns, console.run, f"length {turns}")

    def test_lines_that_are_no_verdict(self):
        console = at_console(LOAD, BENCH)
        for line in ["right", "right ", "right 01", "right 1 ", "right  1", "right 1 1", "right -1", "right +1",
                     "right a",
                     "right " + "1" * 31, "length", "length ", "length 02", "length 1 2", "length  2", "length -",
                     "length " + "0" * 2, "turns ", "turns 1", "Turns", "turn", " turns", "show ", "show 1", "Show",
                     "words ", "words 1", "word", "undo ", "undo 1", "fault ", "fault 1", "faults", "", " ", "  ", "-",
                     "load", "loads x", "Load " + LOAD[5:], " " + LOAD, "help", "right 1;", "right 1 ; turns"]:
            self.no_command(console, line)

    def test_the_limits_of_the_functions(self):
        console = at_console("load " + WIDE.replace("\n", "; "), "bench 1 any 1 a b c")
        for line, limit in [("right 4", 200000), ("length 4", 200000), ("right 3", 1000), ("length 3", 1000)]:
            self.assertEqual(self.error_of(TooMany, console.run, line).limit, limit)
        with mock.patch.object(searches, "MOST_STATES", 5):
            self.assertEqual(self.error_of(TooMany, console.run, "fault").limit, 5)
        self.assertEqual(console.run("words"), "-")


class TestNoCommands(ConsoleCase):
    def test_ahead_of_a_program(self):
        for line in [*OF_PROGRAM, *OF_BENCH, "load", "", "load\n"]:
            self.no_command(Console(), line)
        console = Console()
        self.error_of(InvalidText, console.run, "load nothing")
        for line in [*OF_PROGRAM, *OF_BENCH]:
            self.no_command(console, line)
        self.assertEqual(console.run(LOAD), "ok")

    def test_ahead_of_a_bench(self):
        console = at_console(LOAD)
        for line in OF_BENCH:
            self.no_command(console, line)
        self.error_of(InvalidHands, console.run, "bench 1 any 1 nobody")
        for line in OF_BENCH:
            self.no_command(console, line)

    def test_line_feeds(self):
        console = at_console(LOAD, BENCH)
        for line in [*OF_PROGRAM, *OF_BENCH, LOAD]:
            for text in [line + "\n", "\n" + line, line.replace(" ", "\n"), line + "\n" + line]:
                if "\n" in text:
                    self.no_command(console, text)
        self.no_command(console, "load " + write(PAIR))

    def test_objects_that_are_no_strings(self):
        for console in [Console(), at_console(LOAD), at_console(LOAD, BENCH)]:
            for value in [*others(), b"show", ["show"], ("show",), LOAD.encode(), 5]:
                self.no_command(console, value)

    def test_two_consoles(self):
        one, other = at_console(LOAD, BENCH), at_console(ALONE)
        one.run("step 0 0")
        self.no_command(other, "words")
        self.assertEqual(one.run("words"), "done")
        self.assertEqual(other.run("show"), ALONE[5:])

    def test_the_program_is_the_one_that_was_read(self):
        for program in programs():
            self.assertEqual(read(at_console(line_of(program)).run("show").replace("; ", "\n")), program)


if __name__ == "__main__":
    unittest.main()
