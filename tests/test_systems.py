"""handlesagain/systems.py."""

import itertools
import unittest
from unittest import mock

from helpers import WIDE, Case, PlainPlay, Stubborn, all_programs, others, programs

from handlesagain import searches
from handlesagain.benches import Bench
from handlesagain.crowds import Crowd
from handlesagain.errors import InvalidHands, InvalidNumber, InvalidProgram, TooMany
from handlesagain.programs import Program, Sort
from handlesagain.searches import faulty_rows, is_safe, runs, shortest_fault
from handlesagain.systems import Harm, compared, hides, turns_needed
from handlesagain.tables import BOOKS
from handlesagain.texts import read
from handlesagain.verdicts import is_right

PAIR = Program.pair()
HANDS = ("giver", "giver", "user")

LOCKED = read("common c\nlocks k\nsort a\n  lock k\n  open c\n  close c\n  unlock k\nsort b v\n  lock k\n  set v c\n"
              "  use v\n  unlock k")

# A hand that uses its first handle behind up to four renewals.
RENEWING = read("sort a v w\n  open v\n  set w v\n  go 7\n  renew v\n  renew v\n  renew v\n  renew v\n  use w")


def some_hands(program, most):
    names = [sort.name for sort in program.sorts]
    for many in range(1, most + 1):
        yield from itertools.combinations_with_replacement(names, many)


def plain_fault(bench, longest):
    """The length of a shortest run to a fault by going through all runs, None if none is as short as that."""
    for length in range(1, longest + 1):
        for run in runs(bench, length):
            play = PlainPlay(bench)
            if [play.step(*step) for step in run][-1] == "fault":
                return length
    return None


class TestExample(unittest.TestCase):
    def test_the_example_of_the_document(self):
        hands = ("giver", "giver", "user")
        told = [compared(Program.pair(), *hands), hides(Program.pair(), *hands)]
        self.assertEqual(told, [{"least": 5, "any": 5, "next": None, "last": 5}, ("next",)])


class TestCompared(Case):
    def test_the_books_in_their_order(self):
        told = compared(PAIR, *HANDS)
        self.assertIs(type(told), dict)
        self.assertEqual(list(told), list(BOOKS))

    def test_a_new_dict_each_time(self):
        told = compared(PAIR, *HANDS)
        told["least"] = 0
        self.assertEqual(compared(PAIR, *HANDS)["least"], 5)

    def test_the_shortest_runs(self):
        found = set()
        for program in all_programs():
            for hands in some_hands(program, 2):
                for size, turns in [(1, 1), (2, 2), (4, 1)]:
                    expected = {}
                    for book in BOOKS:
                        run = shortest_fault(Bench(program, *hands, size=size, book=book, turns=turns))
                        expected[book] = None if run is None else len(run)
                    told = compared(program, *hands, size=size, turns=turns)
                    self.assertEqual(told, expected)
                    found.add(tuple(told.values()))
        self.assertGreater(len(found), 8)

    def test_all_runs(self):
        for program in programs()[:4]:
            for hands in some_hands(program, 2):
                told = compared(program, *hands, size=2)
                for book in BOOKS:
                    length = plain_fault(Bench(program, *hands, size=2, book=book), 5)
                    self.assertEqual(told[book] if told[book] is None or told[book] < 6 else None, length)

    def test_what_stands_for_sizes_and_turns_that_are_not_told(self):
        # Under the book next the fifth opening is the first one that gets a number again.
        hands = ["giver"] * 5 + ["user"]
        self.assertEqual(compared(PAIR, *hands), {"least": 5, "any": 5, "next": 8, "last": 5})
        self.assertEqual(compared(PAIR, *hands, size=5), {"least": 5, "any": 5, "next": None, "last": 5})
        self.assertEqual(hides(PAIR, *hands), ())
        self.assertEqual(hides(PAIR, *hands, size=5), ("next",))
        self.assertEqual(compared(PAIR, *HANDS, size=1), dict.fromkeys(BOOKS, 5))
        self.assertEqual(compared(PAIR, *HANDS, size=2)["next"], None)
        self.assertEqual(compared(PAIR, *HANDS, turns=2), dict.fromkeys(BOOKS))
        self.assertEqual(compared(PAIR, "giver", *HANDS, size=1, turns=2), dict.fromkeys(BOOKS, 7))

    def test_by_name_and_by_position(self):
        self.assertEqual(compared(PAIR, *HANDS, turns=1, size=1), dict.fromkeys(BOOKS, 5))
        self.refused_like(InvalidHands, (), compared, program=PAIR)
        self.refused_like(InvalidHands, (*HANDS, 2), compared, PAIR, *HANDS, 2)

    def test_the_errors_of_a_bench_in_their_order(self):
        for call in [compared, hides]:
            for value in others():
                self.refused(InvalidProgram, value, call, value, "nobody", size=0, turns=0)
                if type(value) is not int:
                    self.refused(InvalidNumber, value, call, PAIR, *HANDS, size=value, turns=0)
                    self.refused(InvalidNumber, value, call, PAIR, *HANDS, size=1, turns=value)
            for hands in [(), ("nobody",), ("giver",) * 31, ("giver", None), (Stubborn(),), (["giver"],)]:
                error = self.error_of(InvalidHands, call, PAIR, *hands, size=0, turns=0)
                self.assertEqual([type(hand) for hand in error.value], [type(hand) for hand in hands])
                self.assertTrue(all(hand is other for hand, other in zip(error.value, hands)))
            for size in [0, -1, 61, 10 ** 40]:
                self.refused_like(InvalidNumber, size, call, PAIR, *HANDS, size=size, turns=0)
            for turns in [0, -1, 5, 10 ** 40]:
                self.refused_like(InvalidNumber, turns, call, PAIR, *HANDS, size=60, turns=turns)

    def test_the_error_of_the_search(self):
        for call in [compared, hides]:
            with mock.patch.object(searches, "MOST_STATES", 10), self.assertRaises(TooMany) as caught:
                call(PAIR, *HANDS)
            self.assertEqual(caught.exception.limit, 10)
            with self.assertRaises(TooMany) as caught:
                call(LOCKED, *["a", "b"] * 8)
            self.assertEqual(caught.exception.limit, 50000)


class TestHides(Case):
    def test_against_compared_and_is_right(self):
        found = set()
        for at, program in enumerate(all_programs()):
            for hands in some_hands(program, 3 if at < 4 else 2):
                for size, turns in [(2, 1), (1, 2)]:
                    told = hides(program, *hands, size=size, turns=turns)
                    lengths = compared(program, *hands, size=size, turns=turns)
                    is_wrong = not is_right(Crowd(program, turns=turns))
                    self.assertEqual(told, tuple(book for book in BOOKS if is_wrong and lengths[book] is None))
                    found.add(told)
        self.assertIn((), found)
        self.assertIn(BOOKS, found)
        self.assertIn(("next",), found)

    def test_right_crowds_hide_nothing(self):
        self.assertEqual(hides(LOCKED, "a", "b"), ())
        self.assertEqual(hides(LOCKED, "a", "b", turns=3), ())

    def test_the_turns_are_those_of_the_crowd(self):
        program = read("locks k\nsort a v w\n  lock k\n  open v\n  set w v\n  renew v\n  use w\n  unlock k")
        self.assertEqual(hides(program, "a", turns=1), ())
        self.assertEqual(hides(program, "a", turns=2), ())
        self.assertEqual(hides(PAIR, "giver", turns=2), BOOKS)
        self.assertEqual(hides(PAIR, *HANDS, turns=2), BOOKS)

    def test_by_name(self):
        self.assertEqual(hides(PAIR, *HANDS, turns=1, size=1), ())
        self.refused_like(InvalidHands, (), hides, program=PAIR)

    def test_the_errors_of_is_right_come_last(self):
        wide = read(WIDE)
        for turns, limit in [(4, 200000), (3, 1000)]:
            with self.assertRaises(TooMany) as caught:
                hides(wide, "c", size=1, turns=turns)
            self.assertEqual(caught.exception.limit, limit)
        with mock.patch.object(searches, "MOST_STATES", 3), self.assertRaises(TooMany) as caught:
            hides(wide, "c", size=1, turns=4)
        self.assertEqual(caught.exception.limit, 3)


class TestTurnsNeeded(Case):
    def test_each_answer(self):
        for counts, expected in [((0,), 1), ((1,), 2), ((2,), 3), ((3,), 2), ((4,), 3), ((1, 3), 2), ((1, 2), 3),
                                 ((2, 3), 4), ((1, 2, 3), 4), ((0, 2, 4), 3)]:
            for book in BOOKS:
                self.assertEqual(turns_needed(self.renewing(counts, book)), expected, counts)

    def test_none(self):
        for counts in [(3, 4), (2, 3, 4)]:
            self.assertIs(turns_needed(self.renewing(counts, "least")), None)
        self.assertIs(turns_needed(Bench(PAIR, *["giver"] * 5, "user", size=1)), None)

    def renewing(self, counts, book):
        """A bench with a hand that renews one of so many times and then uses the handle that it had at first."""
        sort = RENEWING["a"].changed(2, ("go", *[7 - count for count in counts]))
        return Bench(Program.lone(sort), "a", size=2, book=book)

    def test_against_is_safe(self):
        answers = set()
        for program in all_programs():
            for hands in some_hands(program, 2):
                for size, book, turns in [(1, "any", 4), (2, "last", 2), (2, "next", 1)]:
                    bench = Bench(program, *hands, size=size, book=book, turns=turns)
                    safe = [other for other in range(1, 5)
                            if is_safe(Bench(program, *hands, size=size, book=book, turns=other))]
                    self.assertEqual(turns_needed(bench), safe[0] if safe else None)
                    answers.add(turns_needed(bench))
        self.assertGreater(len(answers), 2)

    def test_the_turns_of_the_bench_do_not_matter(self):
        for turns in range(1, 5):
            self.assertEqual(turns_needed(bench=Bench(PAIR, *HANDS, turns=turns)), 2)
            self.assertEqual(turns_needed(Bench(PAIR, *HANDS, book="next", turns=turns)), 1)
            self.assertEqual(turns_needed(Bench(PAIR, "giver", *HANDS, size=1, turns=turns)), 3)
            self.assertEqual(turns_needed(Bench(PAIR, "giver", "giver", *HANDS, size=1, turns=turns)), 4)

    def test_the_error_of_the_search(self):
        with self.assertRaises(TooMany) as caught:
            turns_needed(Bench(LOCKED, *["a", "b"] * 8))
        self.assertEqual(caught.exception.limit, 50000)


class TestHarm(Case):
    def harms(self):
        """Harms with no rows, one and several."""
        several = read("common c\nsort a\n  open c\n  close c\nsort b v\n  set v c\n  use v\n  close v\n  renew v")
        return [Harm(bench) for bench in [
            Bench(PAIR, "giver"), Bench(LOCKED, "a", "b"), Bench(PAIR, *HANDS), Bench(PAIR, *HANDS, size=1),
            Bench(several, "a", "b"), Bench(several, "a", "a", "b", size=2),
            Bench(Program.lone(Sort("a", [("open", "v"), ("close", "v"), ("use", "v")], own=["v"])), "a", "a", size=1)]]

    def test_properties(self):
        for program in all_programs():
            for hands in some_hands(program, 2):
                for size, book in [(1, "any"), (2, "next")]:
                    bench = Bench(program, *hands, size=size, book=book)
                    harm = Harm(bench)
                    run = shortest_fault(bench)
                    self.assertIs(harm.bench, bench)
                    self.assertEqual(harm.rows, faulty_rows(bench))
                    self.assertEqual(harm.length, None if run is None else len(run))
                    self.assertEqual((len(harm), bool(harm)), (len(harm.rows), harm.rows != ()))
                    self.assertIs(bool(harm), run is not None)

    def test_by_name_and_not_assigned(self):
        harm = Harm(bench=Bench(PAIR, *HANDS))
        self.assertEqual((harm.rows, harm.length), (((1, 1),), 5))
        for name in ["bench", "rows", "length"]:
            with self.assertRaises(AttributeError):
                setattr(harm, name, None)

    def test_comparing(self):
        harms = self.harms()
        self.assertEqual([len(harm) for harm in harms], [0, 0, 1, 1, 0, 3, 1])
        for one, other in itertools.product(harms, harms):
            few, many = len(one.rows), len(other.rows)
            self.assertIs(one < other, few < many)
            self.assertIs(one <= other, few <= many)
            self.assertIs(one > other, few > many)
            self.assertIs(one >= other, few >= many)

    def test_comparing_with_objects_of_other_classes(self):
        harm = self.harms()[2]
        for value in [1, None, (1, 1), ((1, 1),), "harm", PAIR, harm.bench]:
            for compare in [lambda: harm < value, lambda: harm <= value, lambda: harm > value, lambda: harm >= value]:
                with self.assertRaises(TypeError):
                    compare()

    def test_equality(self):
        harms = self.harms()
        for one, other in itertools.product(harms, harms):
            self.assertIs(one == other, one.rows == other.rows)
            self.assertIs(one != other, one.rows != other.rows)
        self.assertEqual(harms[0], harms[1])
        self.assertEqual(harms[2], harms[3])
        self.assertNotEqual(harms[3], harms[6])
        for value in [None, 1, True, (), ((1, 1),), harms[2].rows, harms[2].bench, "harm", object()]:
            self.assertIs(harms[2] == value, False)
            self.assertIs(harms[2] != value, True)
            self.assertIs(harms[0] == value, False)

    def test_rows_that_are_there(self):
        harm = self.harms()[5]
        self.assertEqual(harm.rows, ((1, 1), (1, 2), (1, 3)))
        for row in [(1, 1), (1, 2), (1, 3)]:
            self.assertIs(row in harm, True)
        for row in [(1, 0), (0, 1), (1, 4), (2, 1), (-1, 1), (1, 1, 1), (1,), (True, 1), (1, True), (True, True),
                    [1, 1], (1, 10 ** 40), ("1", 1), ((1, 1),), ("b", 1), 1, "11", (Stubborn(), 1), (1, Stubborn())]:
            self.assertIs(row in harm, False)
        for value in others():
            for other in self.harms():
                self.assertIs(value in other, False)

    def test_truth_values_for_0_and_1(self):
        harm = Harm(Bench(read("common c d\nsort a\n  use d\n  open c\n  set d c\n  renew c\n  go 0"), "a"))
        self.assertEqual(harm.rows, ((0, 0),))
        self.assertIs((0, 0) in harm, True)
        for row in [(False, 0), (0, False), (False, False)]:
            self.assertIs(row in harm, False)

    def test_no_items_and_no_iteration(self):
        for call in [list, iter, lambda harm: harm[0]]:
            with self.assertRaises(TypeError):
                call(self.harms()[2])

    def test_the_errors_of_the_searches(self):
        with self.assertRaises(TooMany) as caught:
            Harm(Bench(LOCKED, *["a", "b"] * 8))
        self.assertEqual(caught.exception.limit, 50000)


if __name__ == "__main__":
    unittest.main()
