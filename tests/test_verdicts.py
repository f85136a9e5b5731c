"""handlesagain/verdicts.py."""

import unittest

from helpers import GIVERS, USERS, WIDE, all_programs, joined, mixed_programs, programs, small_benches

from handlesagain.benches import Bench
from handlesagain.crowds import Closure, Crowd
from handlesagain.errors import TooMany
from handlesagain.programs import Program, Sort
from handlesagain.searches import shortest_fault
from handlesagain.texts import read
from handlesagain.verdicts import Trail, is_right, is_within, least_turns, shortest_length

PAIR = Program.pair()
TURNS = range(1, 5)


def trail_of(crowd):
    """The trail of a crowd, and the closure that it goes through."""
    closure = Closure(crowd)
    return Trail(crowd, closure.scenes, closure.parts, closure.arrows), closure


def without(crew, part):
    at = crew.index(part)
    return crew[:at] + crew[at + 1:]


def plain_length(crowd, longest, most):
    """The length of a shortest run by going on from the first scene, and whether it is known.

    What comes next is looked for as long as it is short and there is not too much of it. A crew is what has moved.
    """
    firsts = crowd.first_parts()
    ends = [len(sort) for sort in crowd.program.sorts]
    level = {(crowd.first_scene(), ()): True}
    known = dict(level)
    for moves in range(longest):
        found = {}
        for scene, crew in level:
            for part in dict.fromkeys([*crew, *firsts]):
                if crowd.is_fault(scene, part):
                    return moves + 1, True
                rest = crew if part in firsts else without(crew, part)
                for behind, moved in crowd.moves(scene, part):
                    stays = moved not in firsts and moved[1] < ends[moved[0]]
                    found[(behind, tuple(sorted([*rest, moved])) if stays else rest)] = True
        level = {state: True for state in found if state not in known}
        known.update(level)
        if not level:
            return None, True
        if len(level) > most:
            return moves + 2, False
    return longest + 1, False


class TestExample(unittest.TestCase):
    def test_the_example_of_the_document(self):
        pair = Program.pair()
        told = [is_right(Crowd(pair)), [shortest_length(Crowd(pair, turns=turns)) for turns in [1, 2]],
                least_turns(pair)]
        self.assertEqual(told, [False, [5, 7], None])

    def test_by_name(self):
        self.assertIs(is_right(crowd=Crowd(PAIR)), False)
        self.assertEqual(shortest_length(crowd=Crowd(PAIR)), 5)
        self.assertIs(least_turns(program=PAIR), None)


class TestKnown(unittest.TestCase):
    def verdicts(self, *lengths, program):
        """The shortest lengths with one to four turns; they tell what is right, too."""
        for turns, length in enumerate(lengths, 1):
            crowd = Crowd(program, turns=turns)
            self.assertEqual(shortest_length(crowd), length)
            self.assertIs(is_right(crowd), length is None)
        right = [turns for turns, length in enumerate(lengths, 1) if length is None]
        if len(lengths) == 4:
            self.assertEqual(least_turns(program), right[0] if right else None)

    def test_pair(self):
        self.verdicts(5, 7, 9, 11, program=PAIR)

    def test_nothing_in_common(self):
        rows = [("open", "v"), ("use", "v"), ("close", "v"), ("go", 0, 4)]
        self.verdicts(None, None, None, None, program=Program.lone(Sort("a", rows, own=["v"])))
        self.verdicts(None, None, None, None, program=Program.lone(Sort("a", [("rest",)])))

    def test_a_hand_that_closes_and_goes_on(self):
        rows = [("open", "v"), ("close", "v"), ("use", "v")]
        self.verdicts(4, 6, 8, 10, program=Program.lone(Sort("a", rows, own=["v"])))

    def test_a_lock_around_both_sorts(self):
        giver = [("lock", "k"), ("open", "c"), ("close", "c"), ("unlock", "k")]
        user = [("lock", "k"), ("set", "v", "c"), ("use", "v"), ("unlock", "k")]
        self.verdicts(None, None, None, None, program=joined(giver, user))

    def test_a_lock_around_one_sort_or_none(self):
        giver, user = GIVERS[0], USERS[0]
        self.verdicts(5, 7, 9, 11, program=joined(giver, user))
        self.verdicts(6, 8, 10, 12, program=joined(giver, [("lock", "k"), *user, ("unlock", "k")]))
        self.verdicts(8, 12, 16, 20, program=joined([("lock", "k"), *giver, ("unlock", "k")], user))

    def test_two_unlike_locks_are_no_lock(self):
        giver = Sort("a", [("lock", "k"), ("open", "c"), ("close", "c"), ("unlock", "k")])
        user = Sort("b", [("lock", "l"), ("set", "v", "c"), ("use", "v"), ("unlock", "l")], own=["v"])
        self.verdicts(9, 13, 17, 21, program=Program(giver, user, common=["c"], locks=["k", "l"]))

    def test_a_lock_that_is_not_freed_lets_one_hand_through(self):
        program = read("locks k\nsort a v\n  lock k\n  open v\n  close v\n  use v")
        self.verdicts(None, None, None, None, program=program)
        program = read("locks k\nsort a v\n  lock k\n  open v\n  close v\n  use v\nsort b v\n  open v")
        self.verdicts(5, None, None, None, program=program)

    def test_renewals(self):
        self.verdicts(4, None, None, None, program=read("sort a v w\n  open v\n  set w v\n  renew v\n  use w"))
        program = read("sort a v w\n  open v\n  set w v\n  renew v\n  renew v\n  close w")
        self.verdicts(5, 5, None, None, program=program)

    def test_a_handle_that_is_elder_than_the_entry(self):
        program = read("locks k\nsort a v w\n  lock k\n  open v\n  set w v\n  renew v\n  renew v\n  drop v\n  renew w\n"
                       "  unlock k")
        self.verdicts(7, 7, None, None, program=program)

    def test_small_crews_that_are_far_from_a_fault(self):
        program = read("common c\nsort a v\n  set v c\n  close v\n  set v v\nsort b v\n  set c v\n  open c\n  open v")
        self.verdicts(7, program=program)
        program = read("common c d\nsort a v w\n  use w\n  open d\n  open c\n  close c\n  open d\n  use c\n"
                       "sort b\n  open d\n  close c\n  set c c")
        self.verdicts(6, program=program)

    def test_hands_that_come_in_any_number(self):
        program = read("common c\nsort a\n  use c\n  open c\n  renew c\nsort b\n  rest")
        self.verdicts(None, None, None, None, program=program)
        program = read("common c d\nsort a\n  open d\n  renew c\nsort b\n  set c d")
        self.verdicts(6, 8, 10, 12, program=program)


class TestLeastTurns(unittest.TestCase):
    def renewing(self, *counts):
        """A program whose hand renews one of so many times and then uses the handle that it had at first."""
        rows = [("lock", "k"), ("open", "v"), ("set", "w", "v")]
        most = max(counts)
        rows += [("go", *[len(rows) + 1 + most - count for count in counts])]
        rows += [("renew", "v")] * most + [("use", "w"), ("unlock", "k")]
        return Program(Sort("a", rows, own=["v", "w"]), locks=["k"])

    def test_each_answer(self):
        for counts, expected in [((0,), 1), ((1,), 2), ((2,), 3), ((3,), 2), ((4,), 3), ((0, 1), 2), ((1, 2), 3),
                                 ((1, 3), 2), ((1, 4), 3), ((2, 3), 4), ((1, 2, 3), 4), ((2, 3, 4), None),
                                 ((3, 4), None), ((2, 4), 3)]:
            self.assertEqual(least_turns(self.renewing(*counts)), expected, counts)

    def test_none(self):
        self.assertIs(least_turns(PAIR), None)

    def test_the_first_of_the_turns_that_are_right(self):
        many = 0
        for program in all_programs():
            try:
                right = [turns for turns in TURNS if is_right(Crowd(program, turns=turns))]
            except TooMany:
                continue
            self.assertEqual(least_turns(program), right[0] if right else None)
            many += 1
        self.assertGreater(many, 30)


class TestAgainstMoves(unittest.TestCase):
    def verdict(self, crowd):
        """The shortest length, and whether there is one, unless there are too many entries."""
        try:
            length = shortest_length(crowd)
            self.assertIs(is_right(crowd), length is None)
            return length, True
        except TooMany as error:
            self.assertEqual(error.limit, 1000)
            return None, False

    def test_going_on_from_the_first_scene(self):
        counts = {"right": 0, "wrong": 0, "found": 0, "too many": 0}
        for program in all_programs():
            for turns in TURNS:
                crowd = Crowd(program, turns=turns)
                length, is_told = self.verdict(crowd)
                least, is_known = plain_length(crowd, 9, 1000)
                if is_told and is_known:
                    self.assertEqual(length, least)
                    counts["found"] += 1
                elif length is not None:
                    self.assertGreaterEqual(length, least)
                counts["too many" if not is_told else "right" if length is None else "wrong"] += 1
        self.assertLess(counts.pop("too many"), 13)
        for name in counts:
            self.assertGreater(counts[name], 30, counts)

    def test_programs_whose_rows_are_drawn(self):
        found = 0
        for at, program in enumerate(mixed_programs(1000, "verdicts")):
            crowd = Crowd(program, turns=2 if at % 3 == 2 else 1)
            length, is_told = self.verdict(crowd)
            least, is_known = plain_length(crowd, 9, 600)
            if is_told and is_known and length is not None:
                found += 1
            if is_told and is_known:
                self.assertEqual(length, least)
            elif length is not None:
                self.assertGreaterEqual(length, least)
        self.assertGreater(found, 40)

    def test_entries_ahead_lead_to_the_entry_in_one_move(self):
        """The crew of an entry, or more, is there behind a move of one of the crew ahead of it or of a first part."""
        for program in [*programs(), *mixed_programs(40, "entries")]:
            trail, closure = trail_of(Crowd(program))
            firsts = list(range(len(program)))
            moves = {}
            for scene, part, behind, moved in closure.arrows:
                moves.setdefault((scene, part), []).append((behind, moved))
            entries = [(scene, crew) for scene, _, crew in trail.faults()[:20]]
            for _ in range(5):
                found = {}
                for scene, crew in entries:
                    for source, parts, part, moved in trail.ahead_of(scene, crew):
                        self.assertIn((scene, moved), moves[(source, part)])
                        self.assertTrue(part in parts or part in firsts)
                        self.assertEqual(list(parts), sorted(parts))
                        self.assertNotIn(min([*parts, len(firsts)]), firsts)
                        behind = [sorted([*(parts if part in firsts else without(parts, part)), moved])
                                  for part in [*parts, *firsts] for goal, moved in moves.get((source, part), [])
                                  if goal == scene]
                        self.assertTrue(any(is_within(crew, tuple(more)) for more in behind))
                        self.assertLessEqual(len(parts), len(crew) + 1)
                        found[(source, parts)] = True
                entries = list(found)[::max(1, len(found) // 60)]

    def test_what_it_takes_at_least_to_come_somewhere(self):
        """An estimate that was too great would hide shorter runs."""
        for program in [*programs(), *mixed_programs(20, "estimates")]:
            trail, closure = trail_of(Crowd(program, turns=2))
            firsts = len(program)
            level = {(0, ()): True}
            for moves in range(6):
                found = {}
                for scene, crew in list(level)[:200]:
                    self.assertLessEqual(trail.least_moves(scene, crew), moves)
                    for source, part, behind, moved in closure.arrows:
                        if source == scene and (part < firsts or part in crew):
                            rest = crew if part < firsts else without(crew, part)
                            found[(behind, tuple(sorted([*rest, moved])) if moved >= firsts else rest)] = True
                level = found


class TestAgainstBenches(unittest.TestCase):
    def length(self, bench):
        """The length of a shortest run to a fault; it is as good as none where there are too many states."""
        try:
            fault = shortest_fault(bench)
        except TooMany:
            return None
        return None if fault is None else len(fault)

    def test_no_bench_is_worse_than_its_crowd(self):
        for program in all_programs():
            for turns, most in [(1, 3), (2, 2)]:
                length = shortest_length(Crowd(program, turns=turns))
                for bench in small_benches(program, turns, most if len(program) < 3 else 2):
                    found = self.length(bench)
                    if found is not None:
                        self.assertIsNotNone(length)
                        self.assertGreaterEqual(found, length)

    def test_benches_with_turns_that_are_a_multiple_of_those_of_a_right_crowd(self):
        for program in all_programs():
            for turns, more in [(1, 3), (1, 4), (2, 4)]:
                if is_right(Crowd(program, turns=turns)):
                    for bench in small_benches(program, more, 2):
                        self.assertIs(self.length(bench), None)

    def test_some_bench_is_as_bad_as_its_crowd(self):
        for text, turns, hands in [
                ("common c\nsort a\n  open c\n  close c\nsort b v\n  set v c\n  use v", 1, "aab"),
                ("common c\nsort a\n  open c\n  close c\nsort b v\n  set v c\n  use v", 2, "aaab"),
                ("sort a v w\n  open v\n  set w v\n  renew v\n  renew v\n  close w", 2, "a"),
                ("common c d\nsort a v\n  open v\n  open d\nsort b v\n  close d\n  use c", 1, "aabb"),
                ("sort a v\n  open v\n  close v\n  use v", 4, "aaaaa"),
                ("common c d\nsort a\n  open d\n  renew c\nsort b\n  set c d", 2, "aaabb")]:
            program = read(text)
            lengths = [self.length(Bench(program, *hands, size=size, turns=turns)) for size in [1, 2]]
            least = min([length for length in lengths if length is not None])
            self.assertEqual(least, shortest_length(Crowd(program, turns=turns)), text)


class TestTooMany(unittest.TestCase):
    def limit(self, call, value):
        with self.assertRaises(TooMany) as caught:
            call(value)
        return caught.exception.limit

    def test_the_error_of_reached(self):
        crowd = Crowd(read(WIDE), turns=4)
        self.assertEqual([self.limit(verdict, crowd) for verdict in [is_right, shortest_length]], [200000] * 2)

    def test_more_than_1000_entries(self):
        crowd = Crowd(read(WIDE), turns=3)
        self.assertEqual([self.limit(verdict, crowd) for verdict in [is_right, shortest_length]], [1000] * 2)

    def test_least_turns_goes_no_further_than_an_error(self):
        program = read(WIDE)
        try:
            is_right(Crowd(program, turns=1))
        except TooMany:
            self.assertEqual(self.limit(least_turns, program), 1000)
        else:
            self.assertIn(self.limit(least_turns, program), [1000, 200000])

    def test_many_entries_with_small_crews(self):
        program = read("common c d\nsort a v\n  open v\n  open c\n  open v\n  close c\n  set d v\n  open d\n  renew d")
        self.assertIs(is_right(Crowd(program, turns=2)), False)
        self.assertEqual(shortest_length(Crowd(program, turns=2)), 11)

    def test_many_entries_that_few_others_cover(self):
        program = read("common c\nlocks k\nsort a v\n  set c v\n  go 0 0\n  lock k\n  unlock k\n  set v c\n  use c\n"
                       "  lock k\nsort b v\n  lock k\n  go 1 0\n  lock k\n  drop c\nsort c v\n  open v\n  set c c\n"
                       "  renew c\n  open c\n  use v\n  set v v")
        self.assertIs(is_right(Crowd(program, turns=3)), True)
        self.assertIs(shortest_length(Crowd(program, turns=3)), None)


if __name__ == "__main__":
    unittest.main()
