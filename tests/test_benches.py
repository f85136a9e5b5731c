"""The class Bench of handlesagain/benches.py."""

import itertools
import random
import unittest

from helpers import Case, PlainPlay, Stubborn, others, programs

from handlesagain.benches import Bench
from handlesagain.errors import InvalidBook, InvalidHands, InvalidNumber, InvalidProgram, InvalidStep
from handlesagain.programs import Program, Sort
from handlesagain.tables import BOOKS, Table

PAIR = Program.pair()


def lone(rows, hands=1, own=("v", "w"), **more):
    """A bench with one sort."""
    return Bench(Program.lone(Sort("a", rows, own=own)), *["a"] * hands, **more)


class TestExample(unittest.TestCase):
    def test_the_example_of_the_document(self):
        bench = Bench(Program.pair(), "giver", "giver", "user")
        told = [bench([(0, 0), (0, 0), (2, 0), (1, 0), (2, 0)]), bench([(0, 0), (0, 0), (2, 0), (1, 1), (2, 0)])]
        self.assertEqual(told, [("done", "done", "done", "done", "fault"), ("done", "done", "done", "done", "refused")])


class TestMaking(Case):
    def test_properties(self):
        hands = ("giver", "user", "giver")
        for size, book, turns in [(1, "least", 1), (60, "any", 4), (2, "next", 2), (59, "last", 3)]:
            bench = Bench(PAIR, *hands, size=size, book=book, turns=turns)
            self.assertEqual((bench.program, bench.hands, bench.size, bench.book, bench.turns),
                             (PAIR, hands, size, book, turns))
            self.assertIs(type(bench.hands), tuple)

    def test_what_is_not_told(self):
        bench = Bench(PAIR, "giver")
        self.assertEqual((bench.size, bench.book, bench.turns), (4, "any", 1))

    def test_size_book_and_turns_only_by_name(self):
        self.refused_like(InvalidHands, ("giver", 4), Bench, PAIR, "giver", 4)
        self.refused_like(InvalidHands, ("giver", 4, "any", 1), Bench, PAIR, "giver", 4, "any", 1)

    def test_properties_cannot_be_assigned(self):
        for name in ["program", "hands", "size", "book", "turns"]:
            with self.assertRaises(AttributeError):
                setattr(Bench(PAIR, "giver"), name, 1)

    def test_one_to_thirty_hands(self):
        for many in [1, 2, 29, 30]:
            self.assertEqual(Bench(PAIR, *["user"] * many).hands, ("user",) * many)

    def test_not_all_sorts_need_hands(self):
        self.assertEqual(Bench(PAIR, "user", "user").hands, ("user", "user"))


class TestErrors(Case):
    def test_what_is_no_program(self):
        for value in others() + ["sort a\n  rest", PAIR["giver"], (PAIR,), [PAIR], Program, Bench(PAIR, "user")]:
            self.refused(InvalidProgram, value, Bench, value, "giver")

    def test_no_hands_and_too_many(self):
        for hands in [(), ("giver",) * 31, ("giver",) * 32, ("nobody",) * 31]:
            self.refused_like(InvalidHands, hands, Bench, PAIR, *hands)

    def test_names_that_no_sort_has(self):
        for name in ["", "c", "v", "Giver", "givers", "give", "giver "]:
            for hands in [(name,), ("giver", name), (name, "user"), ("giver", name, "user")]:
                self.refused_like(InvalidHands, hands, Bench, PAIR, *hands)

    def test_other_objects_for_names(self):
        for value in others() + [0, 1, PAIR["giver"], ("giver",), ["giver"], b"giver"]:
            for hands in [(value,), ("giver", value), (value, "user")]:
                error = self.error_of(InvalidHands, Bench, PAIR, *hands)
                self.assertIs(type(error.value), tuple)
                self.assertEqual(len(error.value), len(hands))
                for kept, given in zip(error.value, hands):
                    self.assertTrue(kept is given)

    def test_wrong_sizes(self):
        for size in [0, 61, -1, 10 ** 30, True, False, "4"] + others():
            self.refused(InvalidNumber, size, Bench, PAIR, "giver", size=size)

    def test_wrong_books(self):
        for book in ["", "Any", "an", b"any", ("any",), 0, BOOKS] + others():
            self.refused(InvalidBook, book, Bench, PAIR, "giver", book=book)

    def test_wrong_turns(self):
        for turns in [0, 5, -1, 10 ** 30, True, False, "1"] + others():
            self.refused(InvalidNumber, turns, Bench, PAIR, "giver", turns=turns)

    def test_the_order(self):
        wrong = {"size": 61, "book": "x", "turns": 7}
        self.refused(InvalidProgram, None, Bench, None, **wrong)
        self.refused(InvalidProgram, None, Bench, None, "nobody", **wrong)
        self.refused_like(InvalidHands, ("nobody",), Bench, PAIR, "nobody", **wrong)
        self.refused(InvalidNumber, 61, Bench, PAIR, "giver", **wrong)
        self.refused(InvalidBook, "x", Bench, PAIR, "giver", book="x", turns=7)
        self.refused(InvalidNumber, 7, Bench, PAIR, "giver", turns=7)


class TestEquality(unittest.TestCase):
    def test_equal_properties(self):
        one = Bench(PAIR, "giver", "user", size=3, book="last", turns=2)
        other = Bench(Program.pair(), "giver", "user", turns=2, book="last", size=3)
        self.assertTrue(one == other)
        self.assertFalse(one != other)
        self.assertTrue(Bench(PAIR, "giver") == Bench(PAIR, "giver", size=4, book="any", turns=1))

    def test_each_property_counts(self):
        one = Bench(PAIR, "giver", "user", size=3, book="last", turns=2)
        longer = PAIR | Program(Sort("more", [("rest",)]), common=["c"])
        for other in [Bench(longer, "giver", "user", size=3, book="last", turns=2),
                      Bench(PAIR, "user", "giver", size=3, book="last", turns=2),
                      Bench(PAIR, "giver", size=3, book="last", turns=2),
                      Bench(PAIR, "giver", "user", "user", size=3, book="last", turns=2),
                      Bench(PAIR, "giver", "user", size=4, book="last", turns=2),
                      Bench(PAIR, "giver", "user", size=3, book="next", turns=2),
                      Bench(PAIR, "giver", "user", size=3, book="last", turns=1)]:
            self.assertFalse(one == other)
            self.assertTrue(one != other)

    def test_objects_of_other_classes(self):
        bench = Bench(PAIR, "giver")
        for other in [None, 1, PAIR, (PAIR, ("giver",), 4, "any", 1), Table(4, book="any"), object(), Bench]:
            self.assertFalse(bench == other)
            self.assertTrue(bench != other)


class TestRuns(Case):
    def test_no_step(self):
        for run in [[], ()]:
            words = Bench(PAIR, "giver")(run)
            self.assertEqual(words, ())
            self.assertIs(type(words), tuple)

    def test_lists_and_tuples(self):
        bench = Bench(PAIR, "giver", "user")
        for many in [list, tuple]:
            words = bench(many([(0, 1), (1, 0), (0, 0), (1, 0)]))
            self.assertEqual(words, ("done", "done", "done", "refused"))
            self.assertIs(type(words), tuple)

    def test_the_run_by_name(self):
        self.assertEqual(Bench(PAIR, "giver")(run=[(0, 0)]), ("done",))

    def test_the_run_is_not_changed(self):
        run = [(0, 0), (0, 0)]
        Bench(PAIR, "giver")(run)
        self.assertEqual(run, [(0, 0), (0, 0)])

    def test_a_bench_can_be_called_again(self):
        bench = Bench(PAIR, "giver", "giver", "user", size=1)
        run = [(0, 0), (0, 0), (2, 0), (1, 0), (2, 0)]
        first = bench(run)
        self.refused(InvalidStep, None, bench, None)
        self.refused_like(InvalidStep, (0, 1), bench, [(0, 0), (0, 1)])
        self.assertEqual([bench(run), bench(run[:3]), bench(run)], [first, first[:3], first])

    def test_what_is_no_run(self):
        bench = Bench(PAIR, "giver")
        wrong = ["", "00", 0, {(0, 0)}, {(0, 0): 1}, iter([(0, 0)]), range(0), len]
        for run in wrong + [value for value in others() if not isinstance(value, (list, tuple))]:
            self.refused(InvalidStep, run, bench, run)

    def test_what_is_no_step(self):
        bench = Bench(PAIR, "giver", "giver", size=2)
        wrong = [[0, 0], (0,), (0, 0, 0), ((0, 0),), "00", (True, 0), (False, 0), (0, True), (0, False), (0, None),
                 (None, 0), ("0", 0), (0, "0"), (-1, 0), (0, -1), (2, 0), (0, 2), (10 ** 30, 0), (0, 10 ** 30),
                 (Stubborn(), 0), (0, Stubborn()), ([0], 0), (0, [0])]
        for step in wrong + others():
            self.refused(InvalidStep, step, bench, [step])
            self.refused(InvalidStep, step, bench, [(0, 0), step])
            self.refused(InvalidStep, step, bench, ((0, 0), (0, 0), step, (1, 0)))

    def test_true_is_no_choice_of_the_number_1(self):
        bench = Bench(PAIR, "giver", size=2)
        step = (0, True)
        self.refused(InvalidStep, step, bench, [step])
        self.assertEqual(bench([(0, 1)]), ("done",))

    def test_the_first_wrong_step_is_told(self):
        bench = Bench(PAIR, "giver")
        first, second = (1, 0), (0, 7)
        self.refused(InvalidStep, first, bench, [(0, 0), first, second])
        self.refused(InvalidStep, second, bench, [(0, 0), second, first])


class TestRows(Case):
    def test_choices_of_go(self):
        bench = lone([("go", 1, 3, 2, 1), ("rest",), ("rest",)])
        for choice, steps in [(0, 2), (1, 0), (2, 1), (3, 2)]:
            run = [(0, choice)] + [(0, 0)] * steps
            self.assertEqual(bench(run), ("done",) * len(run))
            self.refused_like(InvalidStep, (0, 0), bench, [*run, (0, 0)])
        for choice in [4, 5]:
            self.refused_like(InvalidStep, (0, choice), bench, [(0, choice)])

    def test_go_to_itself(self):
        self.assertEqual(lone([("go", 0)])([(0, 0)] * 50), ("done",) * 50)

    def test_choices_of_openings_under_any(self):
        bench = lone([("open", "v"), ("open", "v"), ("open", "v")], hands=2, size=3)
        self.assertEqual(bench([(0, 2), (1, 0), (0, 1)]), ("done",) * 3)
        for run in [[(0, 3)], [(0, 2), (0, 2)], [(0, 2), (1, 2)], [(0, 2), (1, 0), (0, 0)]]:
            self.refused_like(InvalidStep, run[-1], bench, run)

    def test_choices_of_openings_under_other_books(self):
        for book in ["least", "next", "last"]:
            bench = lone([("open", "v")] * 3, size=3, book=book)
            self.assertEqual(bench([(0, 0)] * 3), ("done",) * 3)
            for made in range(3):
                for choice in [1, 2, 3]:
                    self.refused_like(InvalidStep, (0, choice), bench, [(0, 0)] * made + [(0, choice)])

    def test_an_opening_that_is_refused(self):
        for book in BOOKS:
            bench = lone([("open", "v"), ("open", "w"), ("set", "v", "w"), ("use", "v")], size=1, book=book)
            self.assertEqual(bench([(0, 0)] * 4), ("done", "refused", "done", "refused"))
            self.refused_like(InvalidStep, (0, 1), bench, [(0, 0), (0, 1)])

    def test_a_refused_opening_leaves_its_variable_with_nothing(self):
        for book in BOOKS:
            bench = lone([("open", "v"), ("open", "v"), ("use", "v")], size=1, book=book)
            self.assertEqual(bench([(0, 0)] * 3), ("done", "refused", "refused"))

    def test_choices_of_all_else(self):
        rows = [("close", "v"), ("renew", "v"), ("use", "v"), ("set", "v", "v"), ("drop", "v"), ("rest",)]
        for row in rows:
            bench = lone([row])
            self.assertEqual(len(bench([(0, 0)])), 1)
            for choice in [1, 2]:
                self.refused_like(InvalidStep, (0, choice), bench, [(0, choice)])
        bench = Bench(Program(Sort("a", [("lock", "k"), ("unlock", "k")]), locks=["k"]), "a")
        self.assertEqual(bench([(0, 0), (0, 0)]), ("done", "done"))
        self.refused_like(InvalidStep, (0, 1), bench, [(0, 1)])
        self.refused_like(InvalidStep, (0, 1), bench, [(0, 0), (0, 1)])

    def test_deeds_of_variables_that_have_nothing(self):
        for word in ["close", "renew", "use"]:
            self.assertEqual(lone([(word, "v"), ("drop", "v"), (word, "v")])([(0, 0)] * 3),
                             ("refused", "done", "refused"))

    def test_a_hand_that_has_ended(self):
        bench = Bench(PAIR, "user", "giver")
        self.refused_like(InvalidStep, (0, 0), bench, [(0, 0), (0, 0), (0, 0)])
        self.assertEqual(bench([(0, 0), (0, 0), (1, 3)]), ("done", "refused", "done"))

    def test_renewing(self):
        rows = [("open", "v"), ("set", "w", "v"), ("renew", "v"), ("use", "v"), ("use", "w")]
        for turns, word in [(1, "fault"), (2, "refused")]:
            self.assertEqual(lone(rows, turns=turns)([(0, 0)] * 5), ("done",) * 4 + (word,))

    def test_closing_twice(self):
        rows = [("open", "v"), ("close", "v"), ("close", "v"), ("open", "w"), ("close", "v")]
        self.assertEqual(lone(rows, size=1)([(0, 0)] * 5), ("done", "done", "refused", "done", "fault"))

    def test_own_variables_are_those_of_the_hand(self):
        bench = lone([("open", "v"), ("use", "v"), ("close", "v")], hands=2, size=2)
        self.assertEqual(bench([(0, 0), (1, 1), (0, 0), (0, 0), (1, 0), (1, 0)]), ("done",) * 6)

    def test_no_step_behind_a_fault(self):
        bench = Bench(PAIR, "giver", "giver", "user", "user")
        run = [(0, 0), (0, 0), (2, 0), (1, 0), (2, 0)]
        for step in [(0, 0), (1, 0), (2, 0), (3, 0)]:
            self.refused_like(InvalidStep, step, bench, [*run, step])


class TestLocks(Case):
    def bench(self, *hands, rows=(("lock", "k"), ("rest",), ("unlock", "k"))):
        program = Program(Sort("a", rows), Sort("b", [("unlock", "k"), ("lock", "k"), ("lock", "k")]),
                          Sort("c", [("lock", "l"), ("unlock", "l")]), locks=["k", "l"])
        return Bench(program, *hands)

    def test_a_lock_that_another_hand_took(self):
        bench = self.bench("a", "a")
        self.refused_like(InvalidStep, (1, 0), bench, [(0, 0), (1, 0)])
        self.refused_like(InvalidStep, (1, 0), bench, [(0, 0), (0, 0), (1, 0)])
        self.assertEqual(bench([(0, 0), (0, 0), (0, 0), (1, 0)]), ("done",) * 4)

    def test_a_lock_that_the_same_hand_took(self):
        bench = self.bench("b")
        self.refused_like(InvalidStep, (0, 0), bench, [(0, 0)] * 3)

    def test_unlocking_by_a_hand_that_did_not_take_it(self):
        bench = self.bench("a", "b", "a")
        self.assertEqual(bench([(0, 0), (1, 0)]), ("done", "done"))
        self.refused_like(InvalidStep, (2, 0), bench, [(0, 0), (1, 0), (2, 0)])
        self.refused_like(InvalidStep, (1, 0), bench, [(0, 0), (1, 0), (1, 0)])

    def test_unlocking_a_lock_that_was_freed_and_taken_by_another_hand(self):
        bench = self.bench("a", "a", rows=[("lock", "k"), ("unlock", "k"), ("unlock", "k"), ("rest",)])
        bench([(0, 0), (0, 0), (1, 0), (0, 0)])
        self.assertEqual(bench([(0, 0), (0, 0), (1, 0), (0, 0), (1, 0), (1, 0), (0, 0)]), ("done",) * 7)
        more = self.bench("a", "a", "a", rows=[("lock", "k"), ("unlock", "k"), ("unlock", "k"), ("rest",)])
        self.refused_like(InvalidStep, (2, 0), more, [(0, 0), (0, 0), (1, 0), (0, 0), (2, 0)])

    def test_a_lock_of_a_hand_that_has_ended_stays_taken(self):
        bench = self.bench("a", "a", rows=[("lock", "k")])
        self.refused_like(InvalidStep, (1, 0), bench, [(0, 0), (1, 0)])

    def test_another_lock_is_free(self):
        self.assertEqual(self.bench("a", "c")([(0, 0), (1, 0), (1, 0), (0, 0)]), ("done",) * 4)


class TestAgainstAPlainBench(Case):
    def benches(self):
        """Many benches, in an order that does not change."""
        for at, program in enumerate(programs()):
            names = [sort.name for sort in program.sorts]
            for many, size, turns in [(1, 1, 1), (2, 2, 1), (3, 1, 2), (3, 3, 3), (2, 1, 4)]:
                for book in BOOKS:
                    hands = [names[(at + hand) % len(names)] for hand in range(many)]
                    yield Bench(program, *hands, size=size, book=book, turns=turns)

    def test_long_runs(self):
        words = {}
        for at, bench in enumerate(self.benches()):
            for seed in range(3):
                choose = random.Random(1000 * at + seed).choice
                plain, run, told = PlainPlay(bench), [], []
                while plain.steps() and len(run) < 40:
                    run.append(choose(plain.steps()))
                    told.append(plain.step(*run[-1]))
                self.assertEqual(bench(run), tuple(told))
                self.assertEqual(bench(tuple(run)), tuple(told))
                words.update({word: True for word in told})
        self.assertEqual(sorted(words), ["done", "fault", "refused"])

    def test_all_that_can_be_and_that_cannot(self):
        for bench in itertools.islice(self.benches(), 0, None, 3):
            self.all_steps(bench, [], [], 3)

    def all_steps(self, bench, run, words, left):
        """Each step behind a run is made or told to be none."""
        for step in itertools.product(range(len(bench.hands) + 1), range(5)):
            plain = PlainPlay(bench)
            for made in run:
                plain.step(*made)
            if step in plain.steps():
                told = [*words, plain.step(*step)]
                self.assertEqual(bench([*run, step]), tuple(told))
                if left > 1:
                    self.all_steps(bench, [*run, step], told, left - 1)
            else:
                self.refused(InvalidStep, step, bench, [*run, step])


if __name__ == "__main__":
    unittest.main()
