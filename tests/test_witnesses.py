"""handlesagain/witnesses.py."""

import unittest
from unittest import mock

from helpers import WIDE, PlainPlay, all_programs, mixed_programs, small_benches

from handlesagain import witnesses
from handlesagain.benches import Bench
from handlesagain.crowds import Crowd
from handlesagain.errors import TooMany
from handlesagain.programs import Program, Sort
from handlesagain.searches import shortest_fault
from handlesagain.texts import read, write
from handlesagain.verdicts import is_right, shortest_length
from handlesagain.witnesses import witness

PAIR = Program.pair()
TURNS = range(1, 5)


def greedy(giving, ending):
    """A program in which an opening and a closing of a common variable each come with openings that get lost.

    While a hand has the lock, the number that is given again is free all the time.
    """
    giver = [("lock", "k"), *[("open", "v")] * giving, ("open", "c"), ("unlock", "k")]
    ender = [("lock", "k"), ("close", "c"), *[("open", "v")] * ending, ("unlock", "k")]
    sorts = [Sort("giver", giver, own=["v"]), Sort("ender", ender, own=["v"]),
             Sort("user", [("set", "v", "c"), ("use", "v")], own=["v"])]
    return Program(*sorts, common=["c"], locks=["k"])


class WitnessCase(unittest.TestCase):
    def check(self, crowd, told):
        """The witness of a wrong crowd is a bench, and a shortest run to a fault there."""
        self.assertIs(type(told), tuple)
        bench, run = told
        self.assertIs(type(bench), Bench)
        self.assertIs(type(run), tuple)
        self.assertEqual((bench.program, bench.book, bench.turns), (crowd.program, "any", crowd.turns))
        words = bench(run)
        self.assertEqual((words.count("fault"), words[-1]), (1, "fault"))
        self.assertEqual(len(run), shortest_length(crowd))
        self.check_plainly(bench, run)

    def check_plainly(self, bench, run):
        """The same by the words of the document."""
        play = PlainPlay(bench)
        for at, step in enumerate(run):
            self.assertIs(type(step), tuple)
            self.assertEqual([type(number) for number in step], [int, int])
            self.assertIn(step, play.steps())
            self.assertEqual(play.step(*step) == "fault", at == len(run) - 1)


class TestExample(unittest.TestCase):
    def test_the_example_of_the_document(self):
        bench, run = witness(Crowd(Program.pair()))
        self.assertEqual([bench(run), len(bench.hands), bench.size], [("done", "done", "done", "done", "fault"), 3, 1])

    def test_by_name(self):
        bench, run = witness(crowd=Crowd(PAIR))
        self.assertEqual(bench(run)[-1], "fault")


class TestWitnesses(WitnessCase):
    def test_a_pair_with_each_number_of_turns(self):
        for turns, length in zip(TURNS, [5, 7, 9, 11]):
            crowd = Crowd(PAIR, turns=turns)
            bench, run = witness(crowd)
            self.check(crowd, (bench, run))
            self.assertEqual((bench.turns, len(run)), (turns, length))
            # Each closing takes a giver that opened, as has the opening at the end.
            self.assertEqual(sorted(bench.hands), ["giver"] * (turns + 1) + ["user"])

    def test_none_for_crowds_that_are_right(self):
        rows = [("open", "v"), ("use", "v"), ("close", "v"), ("go", 0, 4)]
        for turns in TURNS:
            self.assertIs(witness(Crowd(Program.lone(Sort("a", rows, own=["v"])), turns=turns)), None)
            self.assertIs(witness(Crowd(Program.lone(Sort("a", [("rest",)])), turns=turns)), None)

    def test_many_programs(self):
        counts = {"right": 0, "wrong": 0}
        for program in all_programs():
            for turns in TURNS:
                crowd = Crowd(program, turns=turns)
                try:
                    told = witness(crowd)
                except TooMany as error:
                    self.assertEqual(error.limit, 1000)
                    continue
                self.assertIs(told is None, is_right(crowd))
                if told is not None:
                    self.check(crowd, told)
                counts["right" if told is None else "wrong"] += 1
        self.assertGreater(min(counts.values()), 60, counts)

    def test_programs_whose_rows_are_drawn(self):
        wrong = 0
        for program in mixed_programs(400, "witnesses"):
            for turns in [1, 2, 4]:
                crowd = Crowd(program, turns=turns)
                try:
                    told = witness(crowd)
                except TooMany as error:
                    self.assertEqual(error.limit, 1000)
                    continue
                self.assertIs(told is None, is_right(crowd))
                if told is not None:
                    self.check(crowd, told)
                    wrong += 1
        self.assertGreater(wrong, 60)

    def test_no_small_bench_has_a_shorter_run(self):
        many = 0
        for program in [*all_programs()[::2], *mixed_programs(60, "shorter")]:
            for turns, most in [(1, 3), (2, 2), (3, 1)]:
                try:
                    told = witness(Crowd(program, turns=turns))
                except TooMany:
                    continue
                for run in self.faults(program, turns, most):
                    self.assertIsNotNone(told)
                    self.assertLessEqual(len(told[1]), len(run))
                    many += 1
        self.assertGreater(many, 500)

    def faults(self, program, turns, most):
        """A shortest run to a fault of each small bench that has one."""
        for bench in small_benches(program, turns, most):
            try:
                run = shortest_fault(bench)
            except TooMany:
                continue
            if run is not None:
                yield run

    def test_the_bench_itself_has_no_shorter_run(self):
        many = 0
        for program in [*all_programs(), *mixed_programs(300, "itself")]:
            told = witness(Crowd(program, turns=1))
            if told is not None and len(told[1]) < 9:
                bench, run = told
                self.assertEqual(len(shortest_fault(bench)), len(run))
                many += 1
        self.assertGreater(many, 30)

    def test_a_choice_among_rows(self):
        program = read("common c\nsort a v\n  go 5 1\n  open c\n  go 4 3 4\n  go 5\n  close c\n  go 8 6\n  set v c\n"
                       "  use v\n  rest")
        for turns in [1, 2]:
            crowd = Crowd(program, turns=turns)
            self.check(crowd, witness(crowd))

    def test_renewals_ahead_of_the_entry_that_is_meant(self):
        program = read("locks k\nsort a v w\n  lock k\n  open v\n  set w v\n  renew v\n  renew v\n  drop v\n  renew w\n"
                       "  unlock k")
        for turns in [1, 2]:
            crowd = Crowd(program, turns=turns)
            told = witness(crowd)
            self.check(crowd, told)
            self.assertEqual(len(told[0].hands), 1)

    def test_equal_crowds_have_equal_witnesses(self):
        for program in all_programs():
            crowd, other = Crowd(program), Crowd(read(write(program)))
            self.assertEqual(witness(crowd), witness(other))
            self.assertEqual(witness(crowd), witness(crowd))


class TestTables(WitnessCase):
    def test_openings_that_get_other_numbers(self):
        for giving, ending, turns, least in [(0, 0, 1, 1), (1, 0, 1, 2), (7, 7, 1, 8), (2, 3, 2, 8), (7, 7, 4, 50)]:
            crowd = Crowd(greedy(giving, ending), turns=turns)
            told = witness(crowd)
            self.check(crowd, told)
            self.assertGreaterEqual(told[0].size, least)
            # Each opening that gets lost takes a number for ever, so a lesser table has no such run.
            openings = [step for step, word in zip(told[1], told[0](told[1])) if word == "done"]
            self.assertLessEqual(told[0].size, len(openings))

    def test_openings_that_a_full_table_refuses(self):
        program = read("common c\nlocks k\nsort a v\n  lock k\n  open c\n  open v\n  open v\n  close c\n  unlock k\n"
                       "sort b v\n  set v c\n  use v")
        for turns in TURNS:
            crowd = Crowd(program, turns=turns)
            bench, run = witness(crowd)
            self.check(crowd, (bench, run))
            self.assertEqual(bench.size, 1)
            self.assertEqual(bench(run).count("refused"), 2 * turns)

    def test_a_table_that_is_too_great(self):
        crowd = Crowd(greedy(7, 7), turns=4)
        with mock.patch.object(witnesses, "MOST_NUMBERS", 49), self.assertRaises(TooMany) as caught:
            witness(crowd)
        self.assertEqual(caught.exception.limit, 49)
        with mock.patch.object(witnesses, "MOST_NUMBERS", 50):
            self.check(crowd, witness(crowd))

    def test_too_many_hands(self):
        crowd = Crowd(PAIR, turns=4)
        with mock.patch.object(witnesses, "MOST_HANDS", 5), self.assertRaises(TooMany) as caught:
            witness(crowd)
        self.assertEqual(caught.exception.limit, 60)
        with mock.patch.object(witnesses, "MOST_HANDS", 6):
            self.check(crowd, witness(crowd))

    def test_the_limits(self):
        self.assertEqual((witnesses.MOST_NUMBERS, witnesses.MOST_HANDS), (60, 30))


class TestTooMany(unittest.TestCase):
    def limit(self, crowd):
        with self.assertRaises(TooMany) as caught:
            witness(crowd)
        return caught.exception.limit

    def test_the_errors_of_is_right(self):
        self.assertEqual(self.limit(Crowd(read(WIDE), turns=4)), 200000)
        self.assertEqual(self.limit(Crowd(read(WIDE), turns=3)), 1000)

    def test_a_right_crowd_with_many_entries_that_few_others_cover(self):
        program = read("common c\nlocks k\nsort a v\n  set c v\n  go 0 0\n  lock k\n  unlock k\n  set v c\n  use c\n"
                       "  lock k\nsort b v\n  lock k\n  go 1 0\n  lock k\n  drop c\nsort c v\n  open v\n  set c c\n"
                       "  renew c\n  open c\n  use v\n  set v v")
        self.assertIs(witness(Crowd(program, turns=3)), None)


if __name__ == "__main__":
    unittest.main()
