"""The class Play of handlesagain/plays.py."""

import inspect
import random
import unittest

from helpers import Case, PlainPlay, Stubborn, others, programs

from handlesagain.benches import Bench
from handlesagain.errors import InvalidName, InvalidNumber, InvalidStep
from handlesagain.handles import Handle
from handlesagain.plays import Play
from handlesagain.programs import Program, Sort
from handlesagain.tables import BOOKS, Table

PAIR = Program.pair()


def lone(rows, hands=1, own=("v", "w"), **more):
    """A play of a bench with one sort, with the common variable c and the locks k and l."""
    program = Program(Sort("a", rows, own=own), common=["c"], locks=["k", "l"])
    return Play(Bench(program, *["a"] * hands, **more))


def told(handle):
    return None if handle is None else (handle.number, handle.turn, handle.entry)


def state(play):
    """All that a play tells of itself."""
    program, names, table = play.bench.program, play.bench.hands, play.table()
    hands = range(len(names))
    return {
        "bench": play.bench, "made": play.made, "words": play.words, "fault": play.fault,
        "rows": [play.row_of(hand) for hand in hands],
        "common": {name: told(play[name]) for name in program.common},
        "own": [{name: told(play.own_of(hand, name)) for name in program[names[hand]].own} for hand in hands],
        "taken": {lock: play.is_taken(lock) for lock in program.locks},
        "table": (table.size, table.book, table.turns, table.free(), [table[at] for at in range(table.size)]),
        "steps": list(play.steps()),
    }


def plain_state(plain, made, words):
    """The same of a plain play."""
    table = plain.table
    return {
        "bench": plain.bench, "made": tuple(made), "words": tuple(words), "fault": plain.fault, "rows": plain.rows,
        "common": plain.common, "own": plain.own,
        "taken": {lock: plain.takers[lock] is not None for lock in plain.takers},
        "table": (table.size, table.book, table.turns, table.free(), [table.entry(at) for at in range(table.size)]),
        "steps": plain.steps(),
    }


class TestExample(unittest.TestCase):
    def test_the_example_of_the_document(self):
        play = Play(Bench(Program.pair(), "giver", "user", size=1))
        words = [play.step(0), play.step(1), play.step(0), play.step(1)]
        found = [words, play["c"].text, play.own_of(1, "v") == play["c"], play.row_of(1), list(play.steps())]
        self.assertEqual(found, [["done", "done", "done", "refused"], "0.0", True, 2, []])


class TestBeginning(Case):
    def test_all_of_it(self):
        for program in programs():
            names = [sort.name for sort in program.sorts]
            bench = Bench(program, *names, size=3, book="last", turns=2)
            play = Play(bench)
            self.assertEqual(state(play), {
                "bench": bench, "made": (), "words": (), "fault": None, "rows": [0] * len(names),
                "common": {name: None for name in program.common},
                "own": [{name: None for name in sort.own} for sort in program.sorts],
                "taken": {lock: False for lock in program.locks},
                "table": (3, "last", 2, (0,), [None] * 3),
                "steps": PlainPlay(bench).steps(),
            })

    def test_arguments_by_name(self):
        play = Play(bench=Bench(PAIR, "giver"))
        self.assertEqual(play.step(choice=1, hand=0), "done")
        self.assertEqual(play.row_of(hand=0), 1)
        play = lone([("lock", "k")])
        self.assertIs(play.is_taken(lock="k"), False)
        self.assertIs(play.own_of(name="v", hand=0), None)

    def test_properties_cannot_be_assigned(self):
        for name in ["bench", "made", "words", "fault"]:
            with self.assertRaises(AttributeError):
                setattr(Play(Bench(PAIR, "giver")), name, ())

    def test_two_plays_of_a_bench_are_apart(self):
        bench = Bench(PAIR, "giver")
        one, other = Play(bench), Play(bench)
        one.step(0)
        self.assertEqual((one.made, other.made), (((0, 0),), ()))
        self.assertIs(other["c"], None)


class TestRows(Case):
    def test_open_under_any(self):
        play = lone([("open", "v"), ("open", "c")], hands=2, size=3)
        self.assertEqual(list(play.steps()), [(0, 0), (0, 1), (0, 2), (1, 0), (1, 1), (1, 2)])
        self.assertEqual(play.step(0, 1), "done")
        self.assertEqual((told(play.own_of(0, "v")), play["c"], play.own_of(1, "v")), ((1, 0, 0), None, None))
        self.assertEqual(list(play.steps()), [(0, 0), (0, 2), (1, 0), (1, 2)])
        self.assertEqual(play.step(1, 0), "done")
        self.assertEqual(play.step(1, 2), "done")
        self.assertEqual((told(play.own_of(1, "v")), told(play["c"])), ((0, 0, 1), (2, 0, 2)))
        self.assertEqual(list(play.steps()), [(0, 0)])
        self.assertEqual(play.step(0), "refused")
        self.assertIs(play["c"], None)
        self.assertEqual(len(play.table()), 3)

    def test_open_under_the_other_books(self):
        for book in ["least", "next", "last"]:
            play = lone([("open", "v"), ("open", "w"), ("open", "v")], size=2, book=book)
            words = []
            for _ in range(3):
                self.assertEqual(list(play.steps()), [(0, 0)])
                words.append(play.step(0))
            self.assertEqual(words, ["done", "done", "refused"])
            self.assertEqual((play.own_of(0, "v"), told(play.own_of(0, "w"))), (None, (1, 0, 1)))

    def test_close(self):
        play = lone([("open", "v"), ("close", "v"), ("close", "v")], size=1)
        self.assertEqual([play.step(0), play.step(0)], ["done", "done"])
        self.assertEqual((told(play.own_of(0, "v")), play.table()[0], len(play.table())), ((0, 0, 0), None, 0))
        self.assertEqual((play.step(0), play.row_of(0), play.fault), ("refused", 3, None))

    def test_renew(self):
        play = lone([("open", "v"), ("set", "w", "v"), ("renew", "v"), ("renew", "w"), ("use", "v")], size=1, turns=2)
        self.assertEqual([play.step(0) for _ in range(3)], ["done"] * 3)
        self.assertEqual((told(play.own_of(0, "v")), told(play.own_of(0, "w"))), ((0, 1, 1), (0, 0, 0)))
        self.assertEqual(play.table()[0], 1)
        self.assertEqual((play.step(0), play.step(0)), ("refused", "done"))
        self.assertEqual((told(play.own_of(0, "v")), told(play.own_of(0, "w"))), ((0, 1, 1), (0, 0, 0)))

    def test_a_fault(self):
        for word in ["close", "renew", "use"]:
            rows = [("open", "v"), ("open", "c"), ("set", "w", "c"), ("renew", "c"), (word, "w"), ("rest",)]
            play = lone(rows, hands=2, size=3)
            self.assertEqual([play.step(0, choice) for choice in [0, 2, 0, 0, 0]], ["done"] * 4 + ["fault"])
            self.assertEqual((play.fault, play.row_of(0), play.row_of(1)), ((1, 2), 4, 0))
            self.assertEqual((told(play.own_of(0, "w")), told(play["c"])), ((2, 0, 1), (2, 0, 2)))
            self.assertEqual([play.table()[at] for at in range(3)], [0, None, 2])
            self.assertEqual((play.words[-1], len(play.made)), ("fault", 5))
            self.assertEqual(list(play.steps()), [])
            for step in [(0, 0), (1, 0), (1, 1)]:
                self.refused_like(InvalidStep, step, play.step, *step)

    def test_set_and_drop(self):
        play = lone([("open", "v"), ("set", "c", "v"), ("set", "w", "c"), ("drop", "v"), ("set", "c", "v")])
        words = [play.step(0, choice) for choice in [3, 0, 0, 0]]
        self.assertEqual(words, ["done"] * 4)
        self.assertEqual((play.own_of(0, "v"), told(play["c"]), told(play.own_of(0, "w"))),
                         (None, (3, 0, 0), (3, 0, 0)))
        self.assertEqual(play.step(0), "done")
        self.assertIs(play["c"], None)
        self.assertEqual(play.table()[3], 0)

    def test_lock_and_unlock(self):
        play = lone([("lock", "k"), ("unlock", "k"), ("unlock", "k"), ("rest",)], hands=2)
        self.assertEqual((play.is_taken("k"), play.is_taken("l")), (False, False))
        self.assertEqual(play.step(0), "done")
        self.assertEqual((play.is_taken("k"), play.is_taken("l")), (True, False))
        self.assertEqual(list(play.steps()), [(0, 0)])
        self.refused_like(InvalidStep, (1, 0), play.step, 1)
        self.assertEqual(play.step(0), "done")
        self.assertIs(play.is_taken("k"), False)
        self.assertEqual(list(play.steps()), [(0, 0), (1, 0)])
        self.assertEqual(play.step(1), "done")
        self.assertIs(play.is_taken("k"), True)
        self.assertEqual((play.step(0), play.is_taken("k"), play.row_of(0)), ("done", True, 3))
        self.assertEqual((play.step(1), play.is_taken("k")), ("done", False))

    def test_go(self):
        play = lone([("go", 2, 0, 3, 2), ("rest",), ("rest",)])
        self.assertEqual(list(play.steps()), [(0, 0), (0, 1), (0, 2), (0, 3)])
        for choice, row in [(0, 2), (1, 0), (2, 3), (3, 2)]:
            copy = play.copied()
            self.assertEqual((copy.step(0, choice), copy.row_of(0)), ("done", row))
        self.refused_like(InvalidStep, (0, 4), play.step, 0, 4)
        self.assertEqual(list(lone([("go", 1, 1)]).steps()), [(0, 0), (0, 1)])

    def test_rest_and_the_end(self):
        play = lone([("rest",)], hands=2)
        self.assertEqual((play.step(1), play.row_of(1), list(play.steps())), ("done", 1, [(0, 0)]))
        self.refused_like(InvalidStep, (1, 0), play.step, 1)
        self.assertEqual((play.step(0), list(play.steps())), ("done", []))


class TestAgainstAPlainPlay(unittest.TestCase):
    def test_step_by_step(self):
        for at, program in enumerate(programs()):
            names = [sort.name for sort in program.sorts]
            for many, size, turns in [(1, 1, 1), (2, 2, 2), (3, 1, 3), (4, 3, 1)]:
                for book in BOOKS:
                    hands = [names[(at + hand) % len(names)] for hand in range(many)]
                    choose = random.Random(f"{at} {many} {book}").choice
                    self.go_along(Bench(program, *hands, size=size, book=book, turns=turns), choose)

    def go_along(self, bench, choose):
        play, plain, made, words = Play(bench), PlainPlay(bench), [], []
        while plain.steps() and len(made) < 30:
            self.assertEqual(state(play), plain_state(plain, made, words))
            made.append(choose(plain.steps()))
            words.append(plain.step(*made[-1]))
            self.assertEqual(play.step(*made[-1]), words[-1])
        self.assertEqual(state(play), plain_state(plain, made, words))
        self.assertEqual(bench(made), play.words)
        self.assertEqual(state(play.copied()), state(play))

    def test_faults_tell_what_was_meant_and_what_was_hit(self):
        program = Program(Sort("a", [("open", "v"), ("close", "v"), ("use", "v")], own=["v"]))
        play = Play(Bench(program, "a", "a", size=2))
        for step in [(0, 0), (0, 0), (1, 0), (0, 0)]:
            play.step(*step)
        self.assertEqual((play.fault, play.words), ((0, 1), ("done", "done", "done", "fault")))
        self.assertIs(type(play.fault), tuple)


class TestSteps(Case):
    def test_a_generator(self):
        self.assertTrue(inspect.isgeneratorfunction(Play.steps))
        self.assertEqual(next(Play(Bench(PAIR, "giver")).steps()), (0, 0))

    def test_steps_made_meanwhile_do_not_matter(self):
        play = Play(Bench(PAIR, "giver", "giver", size=2))
        found = []
        for step in play.steps():
            found.append(step)
            if len(found) == 1:
                play.step(0, 1)
        self.assertEqual(found, [(0, 0), (0, 1), (1, 0), (1, 1)])

    def test_each_step_that_is_told_can_be_made_and_no_other(self):
        play = Play(Bench(PAIR, "giver", "user", "giver", size=2))
        for made in [(0, 1), (1, 0), (0, 0), (2, 1), (1, 0)]:
            steps = list(play.steps())
            for hand in range(5):
                for choice in range(5):
                    copy = play.copied()
                    if (hand, choice) in steps:
                        self.assertIn(copy.step(hand, choice), ["done", "refused", "fault"])
                    else:
                        before = state(copy)
                        self.refused_like(InvalidStep, (hand, choice), copy.step, hand, choice)
                        self.assertEqual(state(copy), before)
            play.step(*made)
        self.assertEqual((play.words[-1], list(play.steps())), ("fault", []))

    def test_hands_that_are_none(self):
        play = Play(Bench(PAIR, "giver", "user"))
        before = state(play)
        for hand in [2, 3, -1, 10 ** 30, True, False, "0", (0,), [0]] + others():
            error = self.error_of(InvalidStep, play.step, hand)
            self.assertIs(type(error.value), tuple)
            self.assertTrue(error.value[0] is hand and error.value[1] == 0 and len(error.value) == 2)
            self.assertEqual(state(play), before)

    def test_choices_that_are_none(self):
        play = Play(Bench(PAIR, "giver", "user"))
        before = state(play)
        for choice in [4, -1, 10 ** 30, True, False, "0", (0,), [0], Stubborn()] + others():
            for hand in [0, 1]:
                error = self.error_of(InvalidStep, play.step, hand, choice)
                self.assertTrue(error.value[0] == hand and error.value[1] is choice and len(error.value) == 2)
                self.assertEqual(state(play), before)


class TestReading(Case):
    def test_rows_of_hands_that_are_none(self):
        play = Play(Bench(PAIR, "giver", "user"))
        for hand in [2, -1, 10 ** 30, True, False, "0", "giver", (0,)] + others():
            self.refused(InvalidNumber, hand, play.row_of, hand)

    def test_common_variables(self):
        play = lone([("open", "c")])
        self.assertIs(play["c"], None)
        play.step(0, 2)
        self.assertIsInstance(play["c"], Handle)
        self.assertEqual(told(play["c"]), (2, 0, 0))

    def test_names_of_common_variables_that_are_none(self):
        play = lone([("open", "c")])
        for name in ["v", "w", "k", "a", "d", "", "C", 0, 1, ("c",), ["c"], b"c", slice(0, 1)] + others():
            self.refused(InvalidName, name, play.__getitem__, name)
        with self.assertRaises(InvalidName):
            play["v"]

    def test_not_iterated(self):
        with self.assertRaises(TypeError):
            iter(lone([("rest",)]))
        with self.assertRaises(TypeError):
            list(lone([("rest",)]))

    def test_own_variables(self):
        play = lone([("open", "w"), ("open", "v")], hands=2)
        play.step(1, 3)
        self.assertEqual([told(play.own_of(hand, name)) for hand in [0, 1] for name in ["v", "w"]],
                         [None, None, None, (3, 0, 0)])
        self.assertIsInstance(play.own_of(1, "w"), Handle)

    def test_own_variables_of_hands_that_are_none(self):
        play = lone([("open", "v")])
        for hand in [1, -1, 10 ** 30, True, False, "0", (0,)] + others():
            self.refused(InvalidNumber, hand, play.own_of, hand, "v")
            self.refused(InvalidNumber, hand, play.own_of, hand, None)

    def test_names_of_own_variables_that_are_none(self):
        play = lone([("open", "v")])
        for name in ["c", "k", "a", "x", "", "V", 0, ("v",), ["v"], b"v"] + others():
            self.refused(InvalidName, name, play.own_of, 0, name)

    def test_own_variables_of_another_sort(self):
        play = Play(Bench(PAIR, "giver", "user"))
        self.assertIs(play.own_of(1, "v"), None)
        self.refused(InvalidName, "v", play.own_of, 0, "v")

    def test_locks(self):
        play = lone([("lock", "l")])
        play.step(0)
        self.assertEqual([play.is_taken("k"), play.is_taken("l")], [False, True])

    def test_names_of_locks_that_are_none(self):
        play = lone([("lock", "k")])
        for lock in ["c", "v", "a", "m", "", "K", 0, True, ("k",), ["k"], b"k"] + others():
            self.refused(InvalidName, lock, play.is_taken, lock)


class TestCopies(unittest.TestCase):
    def test_the_told_table_is_a_copy(self):
        play = lone([("open", "v"), ("close", "v")], book="least")
        table = play.table()
        self.assertIs(type(table), Table)
        table.give()
        self.assertEqual((len(table), len(play.table())), (1, 0))
        play.step(0)
        before = play.table()
        play.step(0)
        self.assertEqual((len(before), len(play.table()), before[0], play.table()[0]), (1, 0, 0, None))

    def test_both_go_their_own_ways(self):
        rows = [("open", "v"), ("set", "c", "v"), ("lock", "k"), ("renew", "v"), ("unlock", "k"), ("use", "c")]
        for made in range(len(rows)):
            play = lone(rows, hands=2)
            for _ in range(made):
                play.step(0)
            copy = play.copied()
            before = state(play)
            self.assertEqual(state(copy), before)
            for _ in range(made, len(rows)):
                copy.step(0)
            copy_before = state(copy)
            self.assertEqual(state(play), before)
            play.step(1, list(play.steps())[-1][1])
            self.assertEqual(state(copy), copy_before)
            self.assertEqual((play.made[:made], len(play.made)), (((0, 0),) * made, made + 1))

    def test_a_copy_of_a_faulty_play_is_faulty(self):
        play = lone([("open", "v"), ("set", "c", "v"), ("renew", "v"), ("use", "c")])
        for _ in range(4):
            play.step(0)
        self.assertEqual((play.copied().fault, list(play.copied().steps())), ((0, 1), []))

    def test_a_copy_is_a_play_of_the_same_bench(self):
        play = lone([("rest",)])
        self.assertIs(type(play.copied()), Play)
        self.assertTrue(play.copied().bench == play.bench)


if __name__ == "__main__":
    unittest.main()
