"""The class Crowd of handlesagain/crowds.py."""

import itertools
import unittest
from unittest import mock

from helpers import (WIDE, Case, is_plain_fault, marks, others, parts, plain_moves, plain_reached, programs, scenes,
                     statuses)

from handlesagain import crowds
from handlesagain.crowds import Crowd, are_at_odds
from handlesagain.errors import InvalidNumber, InvalidProgram, TooMany
from handlesagain.programs import Program, Sort
from handlesagain.texts import read

PAIR = Program.pair()
TURNS = range(1, 5)

# Every row with own and common variables; no variable is asleep at the rows behind those that are looked at.
AWAKE = [("use", "v"), ("use", "w"), ("go", 0)]


def lone(rows, own=("v", "w"), common=("c",), locks=("k",), turns=1):
    return Crowd(Program(Sort("a", rows, own=own), common=common, locks=locks), turns=turns)


class TestExample(unittest.TestCase):
    def test_the_example_of_the_document(self):
        crowd = Crowd(Program.pair())
        scene, part = crowd.first_scene(), crowd.first_parts()[0]
        told = [scene, part, len(crowd.moves(scene, part)), crowd.is_fault(("late.0", ("-",), ()), (1, 1, ("x",), ()))]
        self.assertEqual(told, [("none", ("-",), ()), (0, 0, (), ()), 3, True])


class TestMaking(Case):
    def test_properties(self):
        for program in programs():
            for turns in TURNS:
                crowd = Crowd(program, turns=turns)
                self.assertTrue(crowd.program == program)
                self.assertEqual(crowd.turns, turns)

    def test_one_turn_if_it_is_not_told(self):
        self.assertEqual(Crowd(PAIR).turns, 1)

    def test_arguments(self):
        self.assertEqual(Crowd(turns=2, program=PAIR).turns, 2)
        with self.assertRaises(TypeError):
            Crowd(PAIR, 2)

    def test_properties_cannot_be_assigned(self):
        for name in ["program", "turns"]:
            with self.assertRaises(AttributeError):
                setattr(Crowd(PAIR), name, 1)

    def test_what_is_no_program(self):
        for value in others() + ["sort a\n  rest", PAIR["giver"], (PAIR,), [PAIR], Crowd(PAIR), Program]:
            self.refused(InvalidProgram, value, Crowd, value)

    def test_wrong_turns(self):
        for turns in [0, 5, -1, 10 ** 30, True, False, "1", (1,)] + others():
            self.refused(InvalidNumber, turns, Crowd, PAIR, turns=turns)

    def test_the_program_is_looked_at_first(self):
        self.refused(InvalidProgram, None, Crowd, None, turns=0)

    def test_equality(self):
        self.assertTrue(Crowd(PAIR, turns=2) == Crowd(Program.pair(), turns=2))
        self.assertFalse(Crowd(PAIR, turns=2) != Crowd(Program.pair(), turns=2))
        self.assertTrue(Crowd(PAIR) == Crowd(PAIR, turns=1))
        other = Program(*PAIR.sorts[::-1], common=["c"])
        for one in [Crowd(PAIR, turns=1), Crowd(PAIR, turns=3), Crowd(other, turns=2)]:
            self.assertFalse(one == Crowd(PAIR, turns=2))
            self.assertTrue(one != Crowd(PAIR, turns=2))
        for value in [None, 2, PAIR, (PAIR, 2), object(), Crowd]:
            self.assertFalse(Crowd(PAIR, turns=2) == value)
            self.assertTrue(Crowd(PAIR, turns=2) != value)


class TestBeginning(unittest.TestCase):
    def test_first_scene_and_first_parts(self):
        crowd = Crowd(read("common c d\nlocks k l\nsort b v w\n  use v\nsort a\n  rest\nsort c v\n  rest"), turns=3)
        self.assertEqual(crowd.first_scene(), ("none", ("-", "-"), (False, False)))
        free = (False, False)
        self.assertEqual(crowd.first_parts(), ((0, 0, ("-", "-"), free), (1, 0, (), free), (2, 0, ("-",), free)))
        self.assertIs(type(crowd.first_parts()), tuple)
        self.assertIs(type(crowd.first_scene()), tuple)

    def test_none_of_all(self):
        crowd = Crowd(Program.lone(Sort("a", [("rest",)])))
        self.assertEqual((crowd.first_scene(), crowd.first_parts()), (("none", (), ()), ((0, 0, (), ()),)))


class TestMoves(unittest.TestCase):
    """The moves of single rows, each set written out. The own variables v and w are awake behind the row."""

    def moves(self, row, status, own, turns=1, common="-", taken=False, held=False):
        """The list of the statuses, marks and locks behind a row 0."""
        crowd = lone([row, *AWAKE], turns=turns)
        found = crowd.moves((status, (common,), (taken,)), (0, 0, own, (held,)))
        self.assertIs(type(found), list)
        for scene, part in found:
            self.assertEqual((part[:2], len(scene), len(part)), ((0, 1), 3, 4))
        self.assertEqual(len(set(found)), len(found))
        return sorted((scene[0], *scene[1], *part[2], scene[2][0], part[3][0]) for scene, part in found)

    def told(self, row, status, mark, turns):
        """The list of the statuses and marks of v behind a row 0 whose variable is v."""
        found = self.moves(row, status, (mark, "x"), turns)
        self.assertTrue(all(told[1] == "-" and told[3:] == ("x", False, False) for told in found))
        return [(told[0], told[2]) for told in found]

    def test_open(self):
        row = ("open", "v")
        self.assertEqual(self.told(row, "none", "o.0", 1), [("early.0", "o.0"), ("meant", "x"), ("none", "-")])
        self.assertEqual(self.told(row, "none", "-", 3),
                         [("early.0", "o.0"), ("early.1", "o.1"), ("early.2", "o.2"), ("meant", "x"), ("none", "-")])
        self.assertEqual(self.told(row, "free.0", "x", 1), [("free.0", "-"), ("late.0", "o.0")])
        self.assertEqual(self.told(row, "free.0", "x", 4), [("free.0", "-"), ("late.1", "o.1")])
        self.assertEqual(self.told(row, "free.3", "x", 4), [("free.3", "-"), ("late.0", "o.0")])
        for status in ["early.0", "early.1", "meant", "late.0", "late.1"]:
            self.assertEqual(self.told(row, status, "x", 2), [(status, "-")])

    def test_close(self):
        row = ("close", "v")
        self.assertEqual(self.told(row, "meant", "x", 2), [("free.0", "x")])
        self.assertEqual(self.told(row, "late.1", "o.1", 2), [("free.1", "o.1")])
        self.assertEqual(self.told(row, "late.0", "o.0", 2), [("free.0", "o.0")])
        for turn in range(2):
            self.assertEqual(self.told(row, f"early.{turn}", f"o.{turn}", 2), [])
            self.assertEqual(self.told(row, f"early.{turn}", f"o.{1 - turn}", 2), [(f"early.{turn}", f"o.{1 - turn}")])
        self.assertEqual(self.told(row, "late.0", "x", 2), [])
        self.assertEqual(self.told(row, "meant", "o.0", 2), [])
        self.assertEqual(self.told(row, "late.1", "x", 2), [("late.1", "x")])
        self.assertEqual(self.told(row, "meant", "o.1", 2), [("meant", "o.1")])
        self.assertEqual(self.told(row, "free.0", "x", 2), [("free.0", "x")])

    def test_renew(self):
        row = ("renew", "v")
        self.assertEqual(self.told(row, "meant", "x", 1), [("late.0", "o.0")])
        self.assertEqual(self.told(row, "meant", "x", 3), [("late.1", "o.1")])
        self.assertEqual(self.told(row, "late.1", "o.1", 3), [("late.2", "o.2")])
        self.assertEqual(self.told(row, "late.2", "o.2", 3), [("late.0", "o.0")])
        self.assertEqual(self.told(row, "early.0", "o.0", 1), [("early.0", "o.0"), ("meant", "x")])
        self.assertEqual(self.told(row, "early.0", "o.0", 2), [("early.1", "o.1")])
        self.assertEqual(self.told(row, "early.1", "o.1", 2), [("early.0", "o.0"), ("meant", "x")])
        self.assertEqual(self.told(row, "late.0", "x", 3), [])
        self.assertEqual(self.told(row, "meant", "o.0", 3), [])
        self.assertEqual(self.told(row, "late.0", "o.1", 3), [("late.0", "o.1")])
        self.assertEqual(self.told(row, "free.1", "o.1", 3), [("free.1", "o.1")])

    def test_use(self):
        row = ("use", "v")
        self.assertEqual(self.told(row, "late.0", "x", 2), [])
        self.assertEqual(self.told(row, "meant", "o.0", 2), [])
        for status, mark in itertools.product(statuses(2), marks(2)):
            if (status, mark) not in [("late.0", "x"), ("meant", "o.0")]:
                self.assertEqual(self.told(row, status, mark, 2), [(status, mark)])

    def test_deeds_of_a_variable_that_has_nothing(self):
        for word in ["close", "renew", "use"]:
            for status in statuses(2):
                self.assertEqual(self.told((word, "v"), status, "-", 2), [(status, "-")])

    def test_common_variables(self):
        self.assertEqual(self.moves(("open", "c"), "none", ("x", "o.0"), common="x"),
                         [("early.0", "o.0", "x", "o.0", False, False), ("meant", "x", "x", "o.0", False, False),
                          ("none", "-", "x", "o.0", False, False)])
        self.assertEqual(self.moves(("close", "c"), "meant", ("-", "-"), common="x"),
                         [("free.0", "x", "-", "-", False, False)])
        self.assertEqual(self.moves(("renew", "c"), "meant", ("x", "-"), common="x"),
                         [("late.0", "o.0", "x", "-", False, False)])
        self.assertEqual(self.moves(("use", "c"), "late.0", ("-", "-"), common="x"), [])

    def test_set(self):
        self.assertEqual(self.moves(("set", "v", "w"), "late.0", ("x", "o.0"), common="-"),
                         [("late.0", "-", "o.0", "o.0", False, False)])
        self.assertEqual(self.moves(("set", "c", "v"), "late.0", ("x", "o.0"), common="-"),
                         [("late.0", "x", "x", "o.0", False, False)])
        self.assertEqual(self.moves(("set", "v", "c"), "late.0", ("x", "o.0"), common="-"),
                         [("late.0", "-", "-", "o.0", False, False)])
        self.assertEqual(self.moves(("set", "v", "v"), "late.0", ("x", "o.0"), common="-"),
                         [("late.0", "-", "x", "o.0", False, False)])

    def test_drop(self):
        self.assertEqual(self.moves(("drop", "v"), "late.0", ("x", "o.0"), common="x"),
                         [("late.0", "x", "-", "o.0", False, False)])
        self.assertEqual(self.moves(("drop", "c"), "late.0", ("x", "o.0"), common="x"),
                         [("late.0", "-", "x", "o.0", False, False)])

    def test_locks(self):
        for row, taken, held, locks in [
                ("lock", False, False, (True, True)), ("unlock", True, True, (False, False)),
                ("unlock", True, False, (True, False)), ("unlock", False, False, (False, False))]:
            found = self.moves((row, "k"), "meant", ("x", "-"), taken=taken, held=held)
            self.assertEqual(found, [("meant", "-", "x", "-", *locks)])
        self.assertEqual(self.moves(("lock", "k"), "meant", ("x", "-"), taken=True), [])
        self.assertEqual(self.moves(("lock", "k"), "meant", ("x", "-"), taken=True, held=True), [])

    def test_the_other_lock_stays(self):
        crowd = Crowd(read("locks k l\nsort a\n  lock l\n  unlock l"))
        found = crowd.moves(("none", (), (True, False)), (0, 0, (), (True, False)))
        self.assertEqual(found, [(("none", (), (True, True)), (0, 1, (), (True, True)))])
        found = crowd.moves(("none", (), (True, True)), (0, 1, (), (False, True)))
        self.assertEqual(found, [(("none", (), (True, False)), (0, 2, (), (False, False)))])

    def test_rest_and_go(self):
        self.assertEqual(self.moves(("rest",), "late.0", ("x", "o.0"), common="x", taken=True, held=True),
                         [("late.0", "x", "x", "o.0", True, True)])
        crowd = lone([("go", 1, 3, 1), ("use", "v"), ("use", "w")])
        scene = ("meant", ("-",), (False,))
        self.assertEqual(sorted(part[1:3] for _, part in crowd.moves(scene, (0, 0, ("x", "x"), (False,)))),
                         [(1, ("x", "x")), (3, ("-", "-"))])

    def test_the_end(self):
        crowd = lone([("rest",)])
        self.assertEqual(crowd.moves(crowd.first_scene(), (0, 1, ("-", "-"), (False,))), [])

    def test_a_new_list_each_time(self):
        crowd = Crowd(PAIR)
        crowd.moves(crowd.first_scene(), crowd.first_parts()[0]).clear()
        self.assertEqual(len(crowd.moves(crowd.first_scene(), crowd.first_parts()[0])), 3)

    def test_by_name(self):
        crowd = Crowd(PAIR)
        scene, part = crowd.first_scene(), crowd.first_parts()[1]
        self.assertEqual(crowd.moves(part=part, scene=scene), crowd.moves(scene, part))
        self.assertIs(crowd.is_fault(part=part, scene=scene), False)


class TestAsleep(unittest.TestCase):
    def own(self, rows, at, mark, status="late.0", turns=1):
        """The list of the rows behind a row and the marks of v there."""
        crowd = lone(rows, own=["v"], turns=turns)
        found = crowd.moves((status, ("-",), (False,)), (0, at, (mark,), (False,)))
        return sorted((part[1], part[2][0]) for _, part in found)

    def test_a_variable_that_is_not_read_any_more(self):
        self.assertEqual(self.own([("rest",), ("rest",)], 0, "o.0"), [(1, "-")])
        self.assertEqual(self.own([("rest",), ("use", "v")], 0, "o.0"), [(1, "o.0")])

    def test_each_row_that_reads(self):
        for row in [("close", "v"), ("renew", "v"), ("use", "v"), ("set", "c", "v"), ("set", "v", "v")]:
            self.assertEqual(self.own([("rest",), row], 0, "o.0"), [(1, "o.0")])

    def test_each_row_that_writes(self):
        for row in [("open", "v"), ("drop", "v"), ("set", "v", "c")]:
            self.assertEqual(self.own([("rest",), row, ("use", "v")], 0, "o.0"), [(1, "-")])

    def test_rows_that_do_neither(self):
        for row in [("open", "c"), ("drop", "c"), ("set", "c", "c"), ("use", "c"), ("close", "c"), ("renew", "c"),
                    ("lock", "k"), ("unlock", "k"), ("rest",)]:
            self.assertEqual(self.own([("rest",), row, ("use", "v")], 0, "o.0"), [(1, "o.0")])
            self.assertEqual(self.own([("rest",), row], 0, "o.0"), [(1, "-")])

    def test_another_variable(self):
        crowd = lone([("rest",), ("use", "w"), ("use", "v")])
        scene, part = ("late.0", ("-",), (False,)), (0, 0, ("o.0", "x"), (False,))
        for at in range(2):
            (_, part), = crowd.moves(scene, (*part[:2], ("o.0", "o.0"), part[3]))
            self.assertEqual(part[2], [("o.0", "o.0"), ("o.0", "-")][at])

    def test_any_way_of_a_go_counts(self):
        rows = [("rest",), ("go", 2, 4), ("drop", "v"), ("go", 5), ("use", "v")]
        self.assertEqual(self.own(rows, 0, "o.0"), [(1, "o.0")])
        self.assertEqual(self.own(rows, 1, "o.0"), [(2, "-"), (4, "o.0")])

    def test_rounds(self):
        rows = [("use", "v"), ("rest",), ("go", 0)]
        self.assertEqual([self.own(rows, at, "o.0") for at in range(3)], [[(1, "o.0")], [(2, "o.0")], [(0, "o.0")]])
        rows = [("open", "v"), ("use", "v"), ("go", 0, 3)]
        self.assertEqual(self.own(rows, 1, "o.0"), [(2, "-")])
        self.assertEqual(self.own([("go", 0), ("use", "v")], 0, "o.0"), [(0, "-")])

    def test_a_mark_that_the_move_has_given(self):
        self.assertEqual(self.own([("open", "v"), ("rest",)], 0, "-", "none"), [(1, "-"), (1, "-"), (1, "-")])
        self.assertEqual(self.own([("renew", "v"), ("drop", "v"), ("use", "v")], 0, "x", "meant"), [(1, "-")])
        crowd = lone([("open", "v"), ("rest",)], own=["v"])
        found = crowd.moves(crowd.first_scene(), crowd.first_parts()[0])
        self.assertEqual(sorted(scene[0] for scene, _ in found), ["early.0", "meant", "none"])

    def test_moves_that_become_alike_are_told_once(self):
        self.assertEqual(self.own([("renew", "v"), ("rest",)], 0, "o.0", "late.0"), [(1, "-")])
        self.assertEqual(self.own([("go", 1, 1)], 0, "o.0"), [(1, "-")])

    def test_the_end(self):
        self.assertEqual(self.own([("use", "v")], 0, "o.0"), [(1, "-")])
        self.assertEqual(self.own([("go", 1, 0), ], 0, "o.0"), [(0, "-"), (1, "-")])
        self.assertEqual(self.own([("use", "v"), ("go", 0, 2)], 1, "o.0"), [(0, "o.0"), (2, "-")])

    def test_the_row_takes_effect_with_the_marks_as_they_were(self):
        crowd = lone([("set", "c", "v"), ("rest",)], own=["v"])
        found = crowd.moves(("late.0", ("-",), (False,)), (0, 0, ("x",), (False,)))
        self.assertEqual(found, [(("late.0", ("x",), (False,)), (0, 1, ("-",), (False,)))])

    def test_common_variables_never_sleep(self):
        crowd = lone([("rest",), ("open", "c")], own=[])
        found = crowd.moves(("late.0", ("x",), (False,)), (0, 0, (), (False,)))
        self.assertEqual(found, [(("late.0", ("x",), (False,)), (0, 1, (), (False,)))])


class TestAgainstTheDocument(unittest.TestCase):
    def all_kinds(self):
        """A program with each word for an own and a common variable."""
        rows = [("open", "v"), ("close", "v"), ("renew", "v"), ("use", "v"), ("lock", "k"), ("go", 0, 7, 10, 7),
                ("set", "c", "v"), ("set", "v", "c"), ("unlock", "k"), ("go", 1)]
        more = [("open", "c"), ("close", "c"), ("renew", "c"), ("use", "c"), ("drop", "c"), ("set", "v", "v"),
                ("drop", "v"), ("rest",), ("use", "v"), ("go", 0)]
        return Program(Sort("a", rows, own=["v"]), Sort("b", more, own=["v"]), common=["c"], locks=["k"])

    def test_all_scenes_and_parts(self):
        for turns in TURNS:
            for program in [self.all_kinds(), PAIR]:
                crowd = Crowd(program, turns=turns)
                for scene in scenes(program, turns):
                    for part in parts(program, turns):
                        found = crowd.moves(scene, part)
                        self.assertEqual(set(found), plain_moves(program, turns, scene, part), (scene, part))
                        self.assertEqual(len(set(found)), len(found))
                        self.assertIs(crowd.is_fault(scene, part), is_plain_fault(program, scene, part))

    def test_truth_values_are_no_integers(self):
        crowd = Crowd(self.all_kinds())
        scene, part = crowd.first_scene(), (0, 4, ("-",), (False,))
        (scene, part), = crowd.moves(scene, part)
        self.assertIs(scene[2][0], True)
        self.assertIs(part[3][0], True)
        (scene, part), = crowd.moves(scene, (0, 8, ("-",), (True,)))
        self.assertIs(scene[2][0], False)
        self.assertIs(part[3][0], False)

    def test_reached(self):
        for program in [*programs(), self.all_kinds()]:
            for turns in (1, 2) if len(program.common) == 2 else TURNS:
                found_scenes, found_parts = Crowd(program, turns=turns).reached()
                self.assertEqual((type(found_scenes), type(found_parts)), (tuple, tuple))
                expected_scenes, expected_parts = plain_reached(program, turns)
                self.assertEqual(set(found_scenes), expected_scenes)
                self.assertEqual(set(found_parts), expected_parts)
                self.assertEqual((len(found_scenes), len(found_parts)), (len(expected_scenes), len(expected_parts)))


class TestAtOdds(unittest.TestCase):
    def odd(self, status, common, taken, *told):
        """Whether parts with these marks and locks are at odds in a scene."""
        found = [(0, 1, tuple(own), tuple(held)) for own, held in told]
        return are_at_odds((status, tuple(common), tuple(taken)), found)

    def test_two_that_hold_one_lock(self):
        one, other, none = ((), (True, False)), ((), (False, True)), ((), (False, False))
        self.assertIs(self.odd("meant", [], [True, True], one, one), True)
        self.assertIs(self.odd("meant", [], [True, True], none, other, none, other), True)
        self.assertIs(self.odd("meant", [], [True, True], one, none, other, none), False)

    def test_a_lock_that_is_not_taken(self):
        for held, taken, expected in [((True, False), (False, True), True), ((True, False), (True, False), False),
                                      ((False, True), (True, False), True), ((False, False), (False, False), False),
                                      ((False, False), (True, True), False)]:
            self.assertIs(self.odd("late.0", [], taken, ((), held)), expected)

    def test_marks_of_the_scene_and_of_parts(self):
        for status, mark, expected in [("none", "-", False), ("none", "x", True), ("none", "o.0", True),
                                       ("none", "o.3", True), ("early.0", "-", False), ("early.2", "x", True),
                                       ("early.0", "o.0", False), ("early.0", "o.1", False), ("meant", "x", False),
                                       ("meant", "o.0", False), ("free.0", "x", False), ("free.1", "o.1", False),
                                       ("late.0", "x", False), ("late.3", "o.0", False)]:
            for marks in [[mark], ["-", mark], [mark, "-"]]:
                self.assertIs(self.odd(status, marks, []), expected)
                self.assertIs(self.odd(status, [], [], (marks, ())), expected)
                self.assertIs(self.odd(status, ["-"], [], (["-"], ()), (marks, ())), expected)

    def test_no_parts(self):
        self.assertIs(self.odd("none", [], []), False)
        self.assertIs(self.odd("none", ["-", "-"], [True, False]), False)


class TestFaults(unittest.TestCase):
    def test_each_deed_of_each_variable(self):
        for word in ["close", "renew", "use"]:
            for status, mark in itertools.product(statuses(3), marks(3)):
                expected = (status, mark) in [("late.0", "x"), ("meant", "o.0")]
                own = lone([(word, "v")], turns=3)
                self.assertIs(own.is_fault((status, ("-",), (False,)), (0, 0, (mark, "-"), (False,))), expected)
                common = lone([(word, "c")], turns=3)
                self.assertIs(common.is_fault((status, (mark,), (False,)), (0, 0, ("-", "-"), (False,))), expected)

    def test_other_rows_and_the_end(self):
        for row in [("open", "v"), ("set", "v", "v"), ("set", "w", "v"), ("drop", "v"), ("lock", "k"), ("unlock", "k"),
                    ("go", 0), ("rest",)]:
            for at in [0, 1]:
                crowd = lone([row])
                self.assertIs(crowd.is_fault(("late.0", ("x",), (False,)), (0, at, ("x", "x"), (False,))), False)
                self.assertIs(crowd.is_fault(("meant", ("o.0",), (False,)), (0, at, ("o.0", "o.0"), (False,))), False)


class TestTooMany(unittest.TestCase):
    def test_more_than_200000_pairs(self):
        program = read(WIDE)
        with self.assertRaises(TooMany) as caught:
            Crowd(program, turns=4).reached()
        self.assertEqual(caught.exception.limit, 200000)
        found_scenes, found_parts = Crowd(program, turns=3).reached()
        self.assertLessEqual(len(found_scenes) * len(found_parts), 200000)

    def test_just_as_many_as_the_limit(self):
        for program in programs():
            crowd = Crowd(program, turns=2)
            found_scenes, found_parts = crowd.reached()
            many = len(found_scenes) * len(found_parts)
            with mock.patch.object(crowds, "MOST_PAIRS", many):
                self.assertEqual(crowd.reached(), (found_scenes, found_parts))
            with mock.patch.object(crowds, "MOST_PAIRS", many - 1), self.assertRaises(TooMany):
                crowd.reached()

    def test_a_crowd_is_made_and_moves_all_the_same(self):
        program = read("common c d\nlocks k l\nsort a v w\n  open v\n  go 0 2\n  use v\n  use w")
        crowd = Crowd(program, turns=4)
        self.assertEqual(len(crowd.moves(crowd.first_scene(), crowd.first_parts()[0])), 6)


if __name__ == "__main__":
    unittest.main()
