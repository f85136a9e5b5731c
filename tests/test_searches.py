"""handlesagain/searches.py."""

import inspect
import itertools
import random
import unittest

from helpers import Case, mixed_programs, others, programs

from handlesagain.benches import Bench
from handlesagain.errors import InvalidNumber, TooMany
from handlesagain.plays import Play
from handlesagain.programs import Program, Sort
from handlesagain.searches import Weaving, faulty_rows, is_safe, runs, shortest_fault, shortest_stuck
from handlesagain.tables import BOOKS
from handlesagain.texts import read

PAIR = Program.pair()
# A plain search goes on as long as there are no more plays of a length than this.
MOST_PLAYS = 300
LONGEST = 14


def lone(rows, hands=1, own=("v", "w"), common=(), locks=(), **more):
    """A bench with one sort."""
    return Bench(Program(Sort("a", rows, own=own), common=common, locks=locks), *["a"] * hands, **more)


def benches():
    """Many benches with one to three hands, each book, and one to three numbers and turns."""
    for at, program in enumerate(programs()):
        names = [sort.name for sort in program.sorts]
        for many, size, turns in [(1, 1, 1), (1, 2, 2), (2, 1, 1), (2, 2, 1), (2, 1, 2), (3, 2, 1), (3, 1, 2),
                                  (2, 3, 3)]:
            for book in BOOKS:
                hands = [names[(at + hand) % len(names)] for hand in range(many)]
                yield Bench(program, *hands, size=size, book=book, turns=turns)


def further(plays):
    """All plays that are one step longer, in list order."""
    found = []
    for play in plays:
        for hand, choice in play.steps():
            copy = play.copied()
            copy.step(hand, choice)
            found.append(copy)
    return found


def weavings(bench):
    """For each length, as long as there are not too many, the list of all plays; the last one is empty if it can be."""
    plays = [Play(bench)]
    for _ in range(LONGEST):
        yield plays
        if not plays or len(plays) > MOST_PLAYS:
            return
        plays = further(plays)


def is_stuck(play):
    hands = range(len(play.bench.hands))
    over = [play.row_of(hand) == len(play.bench.program[play.bench.hands[hand]]) for hand in hands]
    return play.fault is None and not list(play.steps()) and not all(over)


def place_of_fault(play):
    """The tuple of the index of the sort and of the row at which a play has its fault."""
    hand = play.made[-1][0]
    names = [sort.name for sort in play.bench.program.sorts]
    return (names.index(play.bench.hands[hand]), play.row_of(hand))


class TestExample(unittest.TestCase):
    def test_the_example_of_the_document(self):
        bench = Bench(Program.pair(), "giver", "giver", "user", size=2)
        self.assertEqual([shortest_fault(bench), faulty_rows(bench)],
                         [((0, 0), (0, 0), (2, 0), (1, 0), (2, 0)), ((1, 1),)])


class TestAgainstAllWeavings(unittest.TestCase):
    def first(self, levels, test):
        """The run of the first play that meets a test, None if there is none among those that were found."""
        for plays in levels:
            for play in plays:
                if test(play):
                    return play.made
        return None

    def same(self, told, found, levels):
        """What is told is the first run that was found; if none was found, it is longer than all that was looked at."""
        if found is None and told is not None:
            self.assertGreater(len(told), len(levels) - 1)
            self.assertNotEqual(levels[-1], [])
        else:
            self.assertEqual(told, found)

    def test_all(self):
        counts = {"fault": 0, "safe": 0, "stuck": 0, "free": 0, "finite": 0}
        for bench in benches():
            levels = list(weavings(bench))
            fault = self.first(levels, lambda play: play.fault is not None)
            told = shortest_fault(bench)
            self.same(told, fault, levels)
            self.assertIs(is_safe(bench), told is None)
            stuck = self.first(levels, is_stuck)
            self.same(shortest_stuck(bench), stuck, levels)
            rows = {place_of_fault(play) for plays in levels for play in plays if play.fault is not None}
            if levels[-1] == []:
                self.assertEqual(faulty_rows(bench), tuple(sorted(rows)))
                counts["finite"] += 1
            self.assertLessEqual(rows, set(faulty_rows(bench)))
            counts["safe" if told is None else "fault"] += 1
            counts["free" if stuck is None else "stuck"] += 1
        for name in counts:
            self.assertGreater(counts[name], 20, counts)

    def test_what_is_told_is_a_run(self):
        for bench in benches():
            fault, stuck = shortest_fault(bench), shortest_stuck(bench)
            if fault is not None:
                self.assertIs(type(fault), tuple)
                words = bench(fault)
                self.assertEqual([at for at, word in enumerate(words) if word == "fault"], [len(words) - 1])
            if stuck is not None:
                self.assertIs(type(stuck), tuple)
                self.assertNotIn("fault", bench(stuck))
            self.assertEqual(fault is None, faulty_rows(bench) == ())

    def test_equal_arguments_give_equal_results(self):
        for bench in itertools.islice(benches(), 0, None, 7):
            again = Bench(bench.program, *bench.hands, size=bench.size, book=bench.book, turns=bench.turns)
            self.assertEqual(shortest_fault(bench), shortest_fault(again))
            self.assertEqual(faulty_rows(bench), faulty_rows(again))
            self.assertEqual(shortest_stuck(bench), shortest_stuck(again))


class TestShortestFault(unittest.TestCase):
    def test_the_first_one_as_a_list_among_those_of_one_length(self):
        bench = Bench(PAIR, "user", "giver", "giver", size=2)
        self.assertEqual(shortest_fault(bench), ((1, 0), (0, 0), (1, 0), (2, 0), (0, 0)))

    def test_a_later_choice_if_no_earlier_one_leads_to_a_fault_so_soon(self):
        rows = [("go", 1, 5), ("rest",), ("open", "v"), ("renew", "v"), ("go", 8), ("open", "w"), ("set", "v", "w"),
                ("renew", "w"), ("use", "v")]
        self.assertEqual(shortest_fault(lone(rows, size=1)), ((0, 1), (0, 0), (0, 0), (0, 0), (0, 0)))

    def test_numbers_of_openings_under_any(self):
        rows = [("open", "v"), ("open", "w"), ("close", "v"), ("open", "w"), ("use", "v")]
        self.assertEqual(shortest_fault(lone(rows, size=3)), ((0, 0), (0, 1), (0, 0), (0, 0), (0, 0)))
        self.assertEqual(shortest_fault(lone(rows, size=3, book="least")), ((0, 0),) * 5)
        self.assertEqual(shortest_fault(lone(rows, size=3, book="last")), ((0, 0),) * 5)
        self.assertIs(shortest_fault(lone(rows, size=3, book="next")), None)
        self.assertEqual(shortest_fault(lone(rows, size=2, book="next")), ((0, 0),) * 5)

    def test_turns(self):
        rows = [("open", "v"), ("set", "w", "v"), ("renew", "v"), ("use", "w"), ("go", 2)]
        self.assertEqual([len(shortest_fault(lone(rows, turns=turns))) for turns in [1, 2, 3, 4]], [4, 7, 10, 13])

    def test_a_lock_keeps_hands_apart(self):
        giver = Sort("giver", [("lock", "k"), ("open", "c"), ("close", "c"), ("unlock", "k")])
        user = Sort("user", [("lock", "k"), ("set", "v", "c"), ("use", "v"), ("unlock", "k")], own=["v"])
        program = Program(giver, user, common=["c"], locks=["k"])
        for book in BOOKS:
            self.assertIs(is_safe(Bench(program, "giver", "giver", "user", book=book)), True)
        program = Program(giver, user.changed(0, ("rest",)), common=["c"], locks=["k"])
        self.assertIs(is_safe(Bench(program, "giver", "giver", "user")), False)


    def test_each_book(self):
        rows = [("open", "v"), ("open", "w"), ("close", "v"), ("close", "w"), ("open", "v"), ("use", "w")]
        found = [shortest_fault(lone(rows, size=3, book=book)) for book in ["least", "next", "last"]]
        self.assertEqual(found, [None, None, ((0, 0),) * 6])
        rows = [("open", "v"), ("open", "w"), ("close", "w"), ("close", "v"), ("open", "w"), ("use", "v")]
        found = [shortest_fault(lone(rows, size=3, book=book)) for book in ["least", "next", "last"]]
        self.assertEqual(found, [((0, 0),) * 6, None, ((0, 0),) * 6])
        self.assertEqual(shortest_fault(lone(rows, size=2, book="next")), ((0, 0),) * 6)

    def test_a_variable_that_is_dropped(self):
        rows = [("open", "v"), ("close", "v"), ("open", "w"), ("drop", "v"), ("use", "v")]
        self.assertIs(shortest_fault(lone(rows, size=1)), None)
        rows[3] = ("rest",)
        self.assertEqual(len(shortest_fault(lone(rows, size=1))), 5)


class TestWeaving(unittest.TestCase):
    def test_along_long_runs(self):
        """States without numbers of entries go on just as plays do."""
        for at, program in enumerate([*programs(), *mixed_programs(40, "searches")]):
            names = [sort.name for sort in program.sorts]
            for book in BOOKS:
                for turns in [1, 2, 3]:
                    draw = random.Random(f"{at} {book} {turns}")
                    hands = [draw.choice(names) for _ in range(draw.randint(1, 4))]
                    self.go_along(Bench(program, *hands, size=draw.randint(1, 4), book=book, turns=turns), draw)

    def go_along(self, bench, draw):
        play, weaving = Play(bench), Weaving(bench)
        state = weaving.first()
        for _ in range(40):
            followers = weaving.followers(state)
            self.assertEqual([step for step, _ in followers], list(play.steps()))
            table = play.table()
            self.assertEqual(sorted(state[4]), [number for number in range(table.size) if table[number] is None])
            self.assertEqual(weaving.is_over(state), not followers and not is_stuck(play))
            for step, follower in followers:
                copy = play.copied()
                copy.step(*step)
                self.assertEqual(follower is None, copy.fault is not None)
            going_on = [(step, follower) for step, follower in followers if follower is not None]
            if not going_on:
                return
            step, state = draw.choice(going_on)
            play.step(*step)


class TestFaultyRows(unittest.TestCase):
    def test_ascending_and_without_duplicates(self):
        program = read("common c\nsort b\n  open c\n  renew c\nsort a v w\n  set v c\n  use v\n  set w v\n  close w")
        for hands in [("b", "a"), ("a", "b"), ("b", "b", "a", "a"), ("a", "a", "b")]:
            self.assertEqual(faulty_rows(Bench(program, *hands, size=2)), ((1, 1), (1, 3)))
            self.assertIs(type(faulty_rows(Bench(program, *hands, size=2))), tuple)

    def test_the_index_of_the_sort_is_that_in_the_program(self):
        rest = Sort("rest", [("rest",)])
        program = Program(rest, *PAIR.sorts, common=["c"])
        self.assertEqual(faulty_rows(Bench(program, "user", "giver", "giver")), ((2, 1),))
        program = Program(*PAIR.sorts[::-1], rest, common=["c"])
        self.assertEqual(faulty_rows(Bench(program, "user", "giver", "giver")), ((0, 1),))

    def test_none(self):
        self.assertEqual(faulty_rows(Bench(PAIR, "giver", "user")), ())


class TestShortestStuck(unittest.TestCase):
    def test_a_lock_that_is_never_freed(self):
        bench = lone([("lock", "k")], hands=2, locks=["k"])
        self.assertEqual(shortest_stuck(bench), ((0, 0),))
        self.assertIs(shortest_stuck(lone([("lock", "k"), ("unlock", "k")], hands=3, locks=["k"])), None)

    def test_two_locks_in_two_orders(self):
        program = read("locks k l\nsort a\n  lock k\n  lock l\n  unlock l\n  unlock k\n  go 0\n"
                       "sort b\n  lock l\n  lock k\n  unlock k\n  unlock l\n  go 0")
        self.assertEqual(shortest_stuck(Bench(program, "a", "b")), ((0, 0), (1, 0)))
        self.assertIs(shortest_stuck(Bench(program, "a", "a", "a")), None)

    def test_hands_that_have_ended_are_not_stuck(self):
        self.assertIs(shortest_stuck(Bench(PAIR, "giver", "user")), None)

    def test_a_fault_is_not_stuck(self):
        rows = [("open", "v"), ("set", "w", "v"), ("renew", "v"), ("use", "w"), ("rest",)]
        self.assertIs(shortest_stuck(lone(rows)), None)

    def test_the_first_of_one_length(self):
        bench = lone([("go", 1, 2, 3), ("go", 3), ("lock", "k"), ("lock", "k")], locks=["k"])
        self.assertEqual(shortest_stuck(bench), ((0, 1), (0, 0)))


class TestRounds(unittest.TestCase):
    """Hands that go round for ever: entries become more and more, but states do not."""

    def test_states_that_differ_only_by_numbers_of_entries_are_alike(self):
        rows = [("open", "v"), ("use", "v"), ("renew", "v"), ("close", "v"), ("go", 0)]
        for book in BOOKS:
            for turns in range(1, 5):
                for hands, size in [(1, 3), (2, 2), (3, 1)]:
                    bench = lone(rows, hands=hands, size=size, book=book, turns=turns, own=["v"])
                    self.assertIs(shortest_fault(bench), None)
                    self.assertEqual(faulty_rows(bench), ())
                    self.assertIs(shortest_stuck(bench), None)

    def test_old_handles_in_many_variables(self):
        program = read("common c\nsort a v\n  open v\n  set c v\n  close v\n  go 0\n"
                       "sort b v w\n  set v c\n  set w v\n  go 0")
        for book in BOOKS:
            self.assertIs(is_safe(Bench(program, "a", "b", size=2, book=book, turns=3)), True)

    def test_faults_are_found_among_rounds(self):
        program = read("common c\nsort a\n  open c\n  close c\n  go 0\nsort b v\n  set v c\n  use v\n  go 0")
        for turns in range(1, 5):
            for book in BOOKS:
                bench = Bench(program, "a", "b", size=1, book=book, turns=turns)
                self.assertEqual(len(shortest_fault(bench)), 4 + 3 * turns - 1)
                self.assertEqual(faulty_rows(bench), ((1, 1),))


class TestTooMany(Case):
    REST = Sort("rest", [("rest",)] * 10)

    def too_many(self, call, *args):
        with self.assertRaises(TooMany) as caught:
            call(*args)
        self.assertEqual(caught.exception.limit, 50000)

    def test_more_than_50000_states(self):
        bench = Bench(Program.lone(self.REST), *["rest"] * 5)
        for call in [shortest_fault, is_safe, faulty_rows, shortest_stuck]:
            self.too_many(call, bench)

    def test_not_many_more_than_50000_states(self):
        short = Sort("short", [("rest",)] * 3)
        bench = Bench(Program(self.REST, short), *["rest"] * 4, "short")
        for call in [shortest_fault, is_safe, faulty_rows, shortest_stuck]:
            self.too_many(call, bench)

    def test_fewer_than_50000_states(self):
        short = Sort("short", [("rest",)] * 2)
        bench = Bench(Program(self.REST, short), *["rest"] * 4, "short")
        self.assertEqual([shortest_fault(bench), is_safe(bench), faulty_rows(bench), shortest_stuck(bench)],
                         [None, True, (), None])

    def test_just_50000_states(self):
        four, nine, eight = [Sort(name, [("rest",)] * many) for name, many in [("d", 4), ("i", 9), ("h", 7)]]
        bench = Bench(Program(four, nine, eight), *"dddd", *"i", "h")
        self.assertEqual(5 ** 4 * 10 * 8, 50000)
        self.assertEqual([shortest_fault(bench), faulty_rows(bench), shortest_stuck(bench)], [None, (), None])

    def test_a_short_run_is_found_among_more_states(self):
        program = Program(*PAIR.sorts, self.REST, common=["c"])
        bench = Bench(program, "giver", "giver", "user", *["rest"] * 5, size=2)
        self.assertEqual(shortest_fault(bench), ((0, 0), (0, 0), (2, 0), (1, 0), (2, 0)))
        self.assertIs(is_safe(bench), False)
        self.too_many(faulty_rows, bench)
        self.too_many(shortest_stuck, bench)

    def test_a_short_stuck_run_is_found_among_more_states(self):
        sort = Sort("a", [("go", 1, 2), ("go", 0), ("lock", "k"), ("lock", "k")] + [("rest",)] * 6)
        bench = Bench(Program(sort, locks=["k"]), "a", "a")
        self.assertEqual(shortest_stuck(bench), ((0, 1), (0, 0), (1, 1)))


class TestRuns(Case):
    def test_a_generator(self):
        self.assertTrue(inspect.isgeneratorfunction(runs))

    def test_against_building_step_by_step(self):
        for bench in itertools.islice(benches(), 0, None, 5):
            plays = [Play(bench)]
            for length in range(6):
                found = list(runs(bench, length))
                self.assertEqual(found, [play.made for play in plays])
                self.assertEqual(found, sorted(set(found)))
                self.assertTrue(all(type(run) is tuple for run in found))
                if len(plays) > MOST_PLAYS:
                    break
                plays = further(plays)

    def test_no_step(self):
        for bench in [Bench(PAIR, "giver"), Bench(PAIR, "user", "giver", size=1)]:
            self.assertEqual(list(runs(bench, 0)), [()])

    def test_a_fault_only_at_the_last_step(self):
        bench = lone([("open", "v"), ("set", "w", "v"), ("renew", "v"), ("use", "w"), ("rest",)], size=1)
        self.assertEqual([list(runs(bench, length)) for length in range(6)],
                         [[((0, 0),) * length] for length in range(5)] + [[]])

    def test_no_run_is_long_enough(self):
        self.assertEqual(list(runs(lone([("rest",)] * 2), 3)), [])
        self.assertEqual(list(runs(lone([("rest",)] * 2), 12)), [])

    def test_lengths_up_to_12(self):
        bench = lone([("go", 0)])
        self.assertEqual([list(runs(bench, length)) for length in range(13)],
                         [[((0, 0),) * length] for length in range(13)])

    def test_list_order(self):
        bench = lone([("go", 1, 0), ("open", "v")], hands=2, size=2)
        found = list(runs(bench, 4))
        self.assertEqual(found, sorted(found))
        self.assertEqual(len(set(found)), len(found))

    def test_by_name(self):
        self.assertEqual(list(runs(length=1, bench=lone([("rest",)]))), [((0, 0),)])

    def test_runs_are_told_one_by_one(self):
        bench = Bench(Program.lone(Sort("a", [("go", 0, 0, 0, 0)])), *["a"] * 30)
        self.assertEqual(next(runs(bench, 12)), ((0, 0),) * 12)

    def test_wrong_lengths(self):
        bench = Bench(PAIR, "giver")
        for length in [-1, 13, 14, 10 ** 30, True, False, "0", (0,), [0]] + others():
            made = runs(bench, length)
            self.refused(InvalidNumber, length, next, made)


if __name__ == "__main__":
    unittest.main()
