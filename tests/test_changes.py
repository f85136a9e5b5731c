"""handlesagain/changes.py."""

import itertools
import random
import unittest

from helpers import WIDE, Case, Stubborn, all_programs, mixed_programs, others

from handlesagain.changes import edited, is_cure, least_changes
from handlesagain.crowds import Crowd
from handlesagain.errors import (HandleError, InvalidEdit, InvalidName, InvalidNumber, InvalidProgram, InvalidRow,
                                 TooMany)
from handlesagain.programs import Program, Sort
from handlesagain.texts import read
from handlesagain.verdicts import is_right

PAIR = Program.pair()

# Each kind of row, with goes to each row.
KINDS = read("common c\nlocks k\nsort a v w\n  open v\n  close v\n  renew v\n  use v\n  set w v\n  drop w\n  rest\n"
             "sort b v\n  lock k\n  renew c\n  go 0 2 4\n  unlock k")


def lone(*rows, own=("v", "w"), common=(), locks=("k",)):
    return Program(Sort("a", rows, own=own), common=common, locks=locks)


def rows_behind(program, *edits, name="a"):
    return edited(program, edits)[name].rows


def all_edits(program):
    """All edits of a program by the words of the document."""
    for sort in program.sorts:
        many = len(sort)
        goals = [goal for row in sort.rows if row[0] == "go" for goal in row[1:]]
        for at, row in enumerate(sort.rows):
            yield ("skip", sort.name, at)
            if row[0] in ("close", "renew", "use"):
                yield ("drop", sort.name, at)
        for first, last in itertools.product(range(many), repeat=2):
            inside = [row[0] for row in sort.rows[first:last + 1]]
            entered = [goal for goal in goals if goal in range(first + 1, last + 1)]
            if first <= last and not {"lock", "unlock", "go"} & set(inside) and not entered:
                yield ("guard", sort.name, first, last)


def are_joinable(edits):
    """Whether edits can be made together, by the words of the document."""
    rows = [edit[1:] for edit in edits if edit[0] != "guard"]
    stretches = [(edit[1], row) for edit in edits if edit[0] == "guard" for row in range(edit[2], edit[3] + 1)]
    return len(set(rows)) == len(rows) and len(set(stretches)) == len(stretches)


def plain_edited(program, edits):
    """The program behind edits: rows have labels, and a go leads to labels; guards go ahead of a label or behind it."""
    sorts, locks = [], program.locks
    for sort in program.sorts:
        labelled = [(at, row) for at, row in enumerate(sort.rows)] + [(len(sort), None)]
        # Guards come last, as a label then means the taking of a lock.
        for edit in sorted(edits, key=lambda edit: edit[0] == "guard"):
            if edit[1] != sort.name:
                continue
            places = [label for label, _ in labelled]
            at = places.index(edit[2])
            if edit[0] == "skip":
                labelled[at] = (edit[2], ("rest",))
            elif edit[0] == "drop":
                labelled[at] = (edit[2], ("drop", labelled[at][1][1]))
            else:
                end = max(place for place, (label, _) in enumerate(labelled) if label == edit[3]) + 1
                labelled[end:end] = [(None, ("unlock", "guard"))]
                # The taking of the lock gets the label, so that a go leads there.
                labelled[at:at] = [(edit[2], ("lock", "guard"))]
                locks = locks if "guard" in locks else (*locks, "guard")
        labels = [label for label, _ in labelled]
        rows = [row if row[0] != "go" else ("go", *[labels.index(goal) for goal in row[1:]])
                for _, row in labelled[:-1]]
        sorts.append(Sort(sort.name, rows, own=sort.own))
    return Program(*sorts, common=program.common, locks=locks)


class TestExample(unittest.TestCase):
    def test_the_example_of_the_document(self):
        menu = [("guard", "user", 0, 1), ("guard", "giver", 0, 1), ("skip", "giver", 1)]
        self.assertEqual(least_changes(Program.pair(), menu),
                         [(("skip", "giver", 1),), (("guard", "user", 0, 1), ("guard", "giver", 0, 1))])


class TestEdited(Case):
    def test_no_edits(self):
        for program in all_programs():
            for edits in [[], ()]:
                self.assertEqual(edited(program, edits), program)

    def test_skip(self):
        for name, sort in [(sort.name, sort) for sort in KINDS.sorts]:
            for at in range(len(sort)):
                expected = (*sort.rows[:at], ("rest",), *sort.rows[at + 1:])
                behind = edited(KINDS, [("skip", name, at)])
                self.assertEqual(behind[name].rows, expected)
                self.assertEqual([other for other in behind.sorts if other.name != name],
                                 [other for other in KINDS.sorts if other.name != name])
                self.assertEqual((behind.common, behind.locks), (KINDS.common, KINDS.locks))

    def test_drop(self):
        rows = KINDS["a"].rows
        for at in [1, 2, 3]:
            self.assertEqual(rows_behind(KINDS, ("drop", "a", at)), (*rows[:at], ("drop", "v"), *rows[at + 1:]))
        self.assertEqual(rows_behind(KINDS, ("drop", "b", 1), name="b")[1], ("drop", "c"))

    def test_guard(self):
        rows = PAIR["user"].rows
        taking, freeing = ("lock", "guard"), ("unlock", "guard")
        for first, last, expected in [(0, 0, (taking, rows[0], freeing, rows[1])),
                                      (1, 1, (rows[0], taking, rows[1], freeing)),
                                      (0, 1, (taking, *rows, freeing))]:
            behind = edited(PAIR, [("guard", "user", first, last)])
            self.assertEqual(behind["user"].rows, expected)
            self.assertEqual(behind["user"].own, ("v",))
            self.assertEqual(behind["giver"], PAIR["giver"])
            self.assertEqual((behind.locks, behind.common), (("guard",), ("c",)))

    def test_goes_are_counted_anew(self):
        # A guard from row 2 to row 3 of 6: its taking is row 2, and the rows behind it are two further.
        for goal, expected in [(0, 0), (1, 1), (2, 2), (4, 6), (5, 7), (6, 8)]:
            program = lone(("open", "v"), ("go", goal), ("use", "v"), ("use", "v"), ("rest",), ("close", "v"))
            rows = rows_behind(program, ("guard", "a", 2, 3))
            self.assertEqual(rows, (("open", "v"), ("go", expected), ("lock", "guard"), ("use", "v"), ("use", "v"),
                                    ("unlock", "guard"), ("rest",), ("close", "v")))

    def test_goes_ahead_and_behind_with_several_rows(self):
        program = lone(("go", 1, 3, 4, 4), ("open", "v"), ("use", "v"), ("go", 0, 1, 3), locks=())
        self.assertEqual(rows_behind(program, ("guard", "a", 1, 2)),
                         (("go", 1, 5, 6, 6), ("lock", "guard"), ("open", "v"), ("use", "v"), ("unlock", "guard"),
                          ("go", 0, 1, 5)))

    def test_two_guards_side_by_side(self):
        program = lone(("open", "v"), ("use", "v"), ("go", 0, 1, 2, 3))
        expected = (("lock", "guard"), ("open", "v"), ("unlock", "guard"), ("lock", "guard"), ("use", "v"),
                    ("unlock", "guard"), ("go", 0, 3, 6, 7))
        for edits in itertools.permutations([("guard", "a", 0, 0), ("guard", "a", 1, 1)]):
            self.assertEqual(rows_behind(program, *edits), expected)

    def test_guards_at_the_beginning_and_at_the_end(self):
        program = lone(("open", "v"), ("go", 0, 2, 4), ("use", "v"), ("close", "v"))
        self.assertEqual(rows_behind(program, ("guard", "a", 2, 3), ("guard", "a", 0, 0)),
                         (("lock", "guard"), ("open", "v"), ("unlock", "guard"), ("go", 0, 4, 8), ("lock", "guard"),
                          ("use", "v"), ("close", "v"), ("unlock", "guard")))

    def test_a_lock_that_is_there_already(self):
        for locks in [("guard",), ("guard", "k"), ("k", "guard")]:
            program = lone(("lock", "guard"), ("use", "v"), ("unlock", "guard"), locks=locks)
            behind = edited(program, [("guard", "a", 1, 1)])
            self.assertEqual(behind.locks, locks)
            self.assertEqual(behind["a"].rows, (("lock", "guard"), ("lock", "guard"), ("use", "v"),
                                                ("unlock", "guard"), ("unlock", "guard")))
            self.assertEqual(edited(program, [("skip", "a", 1)]).locks, locks)

    def test_a_lock_that_is_new(self):
        self.assertEqual(edited(lone(("rest",)), [("guard", "a", 0, 0)]).locks, ("k", "guard"))
        self.assertEqual(edited(lone(("rest",), locks=()), [("guard", "a", 0, 0)]).locks, ("guard",))
        self.assertEqual(edited(lone(("rest",)), [("skip", "a", 0)]).locks, ("k",))

    def test_several_edits_in_one_stretch(self):
        program = lone(("open", "v"), ("use", "v"), ("close", "v"), ("rest",))
        expected = (("lock", "guard"), ("rest",), ("drop", "v"), ("close", "v"), ("unlock", "guard"), ("rest",))
        for edits in itertools.permutations([("skip", "a", 0), ("drop", "a", 1), ("guard", "a", 0, 2)]):
            self.assertEqual(rows_behind(program, *edits), expected)

    def test_guards_in_several_sorts(self):
        behind = edited(PAIR, [("guard", "user", 0, 1), ("guard", "giver", 0, 1)])
        self.assertEqual([len(sort) for sort in behind.sorts], [4, 4])
        self.assertEqual(behind.locks, ("guard",))

    def test_skipping_what_a_guard_may_not_have_inside_does_not_help(self):
        program = lone(("lock", "k"), ("use", "v"), ("go", 1), ("rest",))
        for other, guard in [(("skip", "a", 0), ("guard", "a", 0, 1)), (("skip", "a", 2), ("guard", "a", 0, 1)),
                             (("skip", "a", 2), ("guard", "a", 1, 3)), (("skip", "a", 2), ("guard", "a", 2, 2))]:
            self.refused(InvalidEdit, guard, edited, program, [other, guard])

    def test_lists_and_tuples_in_any_order(self):
        draw = random.Random("orders")
        many = 0
        for program in [*all_programs(), *mixed_programs(60, "edits")]:
            every = list(all_edits(program))
            for _ in range(6):
                edits = draw.sample(every, min(len(every), draw.randint(1, 4)))
                if not are_joinable(edits):
                    continue
                try:
                    expected = plain_edited(program, edits)
                except HandleError as error:
                    self.error_of(type(error), edited, program, edits)
                    continue
                for order in [edits, edits[::-1], tuple(edits)]:
                    self.assertEqual(edited(program, order), expected)
                many += 1
        self.assertGreater(many, 200)

    def test_by_name_and_nothing_is_changed(self):
        edits = [("skip", "user", 1), ("guard", "giver", 0, 1)]
        program = Program.pair()
        behind = edited(edits=edits, program=program)
        self.assertEqual(edits, [("skip", "user", 1), ("guard", "giver", 0, 1)])
        self.assertEqual(program, PAIR)
        edits.clear()
        self.assertEqual(behind["user"][1], ("rest",))


class TestNoEdits(Case):
    def test_what_is_no_list_or_tuple(self):
        for value in others():
            if not isinstance(value, (list, tuple)):
                for call in [edited, is_cure, least_changes]:
                    self.refused(InvalidEdit, value, call, PAIR, value)

    def test_items_of_other_kinds(self):
        good = ("skip", "giver", 0)
        for value in others():
            for call in [edited, is_cure, least_changes]:
                self.refused(InvalidEdit, value, call, PAIR, [value])
                self.refused(InvalidEdit, value, call, PAIR, (good, value))
                self.refused(InvalidEdit, value, call, PAIR, [value, ("skip", "nobody", 0)])

    def test_what_is_no_edit(self):
        edits = [
            (), ("skip",), ("skip", "user"), ("skip", "user", 0, 0), ("skip", "nobody", 0), ("skip", "", 0),
            ("skip", "user", 2), ("skip", "user", -1), ("skip", "user", True), ("skip", "user", False),
            ("skip", "user", None), ("skip", "user", "0"), ("skip", "user", 10 ** 40), ["skip", "user", 0],
            ("skip", ["user"], 0), ("skip", None, 0), ("skip", 0, 0), ("skip", "user", Stubborn()),
            ("skip", Stubborn(), 0), (Stubborn(), "user", 0), (None, "user", 0), ("Skip", "user", 0),
            (b"skip", "user", 0), ("", "user", 1), ("Drop", "user", 1),
            ("rest", "user", 0), ("rest", "user", 1), ("drop", "user", 0), ("drop", "user", 2), ("drop", "giver", 0),
            ("drop", "user"),
            ("drop", "user", True), ("drop", "user", 1, 1), ("drop", "nobody", 1), ("guard", "user", 0),
            ("guard", "user", 0, 1, 1), ("guard", "user", 1, 0), ("guard", "user", 0, 2), ("guard", "user", -1, 1),
            ("guard", "user", 2, 2), ("guard", "user", False, 1), ("guard", "user", 0, True),
            ("guard", "user", True, 1),
            ("guard", "user", "0", 1), ("guard", "user", 0, None), ("guard", "nobody", 0, 1), ("guard", "user"),
            ("guard", "user", Stubborn(), 1), ("guard", "user", 0, Stubborn()), ("guard", "user", 0, 10 ** 40),
            "skip", {"skip": 0}, ("skip", "user", (0,)), ("user", "skip", 0),
        ]
        for edit in edits:
            for call in [edited, is_cure, least_changes]:
                self.refused(InvalidEdit, edit, call, PAIR, [edit])
                self.refused(InvalidEdit, edit, call, PAIR, [("skip", "giver", 0), edit, None])

    def test_drops_of_other_rows(self):
        for sort in KINDS.sorts:
            for at, row in enumerate(sort.rows):
                if row[0] not in ("close", "renew", "use"):
                    edit = ("drop", sort.name, at)
                    self.refused(InvalidEdit, edit, edited, KINDS, [edit])

    def test_guards_around_locks_and_goes(self):
        rows = [("use", "v"), None, ("use", "v"), ("use", "v")]
        for row in [("lock", "k"), ("unlock", "k"), ("go", 0), ("go", 1), ("go", 4)]:
            program = lone(rows[0], row, *rows[2:])
            for first, last in itertools.combinations_with_replacement(range(4), 2):
                edit = ("guard", "a", first, last)
                if first <= 1 <= last:
                    self.refused(InvalidEdit, edit, edited, program, [edit])
                else:
                    self.assertEqual(len(edited(program, [edit])["a"]), 6)

    def test_goes_into_the_middle(self):
        for goal in range(6):
            program = lone(("use", "v"), ("use", "v"), ("use", "v"), ("use", "v"), ("go", 0, goal))
            for first, last in itertools.combinations_with_replacement(range(4), 2):
                edit = ("guard", "a", first, last)
                if first < goal <= last:
                    self.refused(InvalidEdit, edit, edited, program, [edit])
                else:
                    self.assertEqual(edited(program, [edit]), plain_edited(program, [edit]))

    def test_another_sort_does_not_matter(self):
        program = lone(("use", "v"), ("use", "v")) | Program(Sort("b", [("lock", "k"), ("go", 1)]), locks=["k"])
        self.assertEqual(len(edited(program, [("guard", "a", 0, 1)])["a"]), 4)

    def test_each_edit_of_many_programs(self):
        for program in [*all_programs()[::3], *mixed_programs(40, "each")]:
            every = list(all_edits(program))
            for sort in program.sorts:
                numbers = range(len(sort) + 1)
                tried = [(word, sort.name, at) for word in ["skip", "drop"] for at in numbers]
                tried += [("guard", sort.name, *rows) for rows in itertools.product(numbers, repeat=2)]
                for edit in tried:
                    if edit not in every:
                        self.refused(InvalidEdit, edit, edited, program, [edit])
                        self.refused(InvalidEdit, edit, least_changes, program, [edit])


class TestTogether(Case):
    def test_an_edit_a_second_time(self):
        for edit in [("skip", "user", 0), ("drop", "user", 1), ("guard", "user", 0, 1)]:
            again = (*edit,)
            for edits in [[edit, edit], [edit, ("skip", "giver", 0), again]]:
                self.refused_like(InvalidEdit, edit, edited, PAIR, edits)
                self.refused_like(InvalidEdit, edit, is_cure, PAIR, edits)
                self.refused_like(InvalidEdit, edit, least_changes, PAIR, edits)

    def test_a_skip_and_a_drop_of_one_row(self):
        one, other = ("skip", "user", 1), ("drop", "user", 1)
        self.refused(InvalidEdit, other, edited, PAIR, [one, other])
        self.refused(InvalidEdit, one, edited, PAIR, [other, ("skip", "giver", 1), one])
        self.assertEqual(edited(PAIR, [("skip", "user", 0), other])["user"].rows, (("rest",), ("drop", "v")))
        self.assertEqual(edited(PAIR, [("skip", "giver", 1), other])["giver"][1], ("rest",))

    def test_guards_that_overlap(self):
        program = lone(*[("use", "v")] * 5)
        stretches = list(itertools.combinations_with_replacement(range(5), 2))
        for one, other in itertools.product(stretches, repeat=2):
            edits = [("guard", "a", *one), ("guard", "a", *other)]
            if set(range(one[0], one[1] + 1)) & set(range(other[0], other[1] + 1)):
                self.refused_like(InvalidEdit, edits[1], edited, program, edits)
            else:
                self.assertEqual(edited(program, edits), plain_edited(program, edits))

    def test_guards_of_unlike_sorts(self):
        self.assertEqual(len(edited(PAIR, [("guard", "user", 0, 1), ("guard", "giver", 0, 1)])["giver"]), 4)

    def test_the_first_such_item(self):
        edits = [("skip", "user", 1), ("drop", "user", 1), ("skip", "nobody", 1)]
        self.refused(InvalidEdit, edits[1], edited, PAIR, edits)
        self.refused(InvalidEdit, edits[2], edited, PAIR, [edits[0], edits[2], edits[1]])
        # Edits that cannot be made together are all right in a menu.
        self.refused(InvalidEdit, edits[2], least_changes, PAIR, edits)


class TestErrorsBehind(Case):
    def test_rows_too_many(self):
        for many, error in [(8, None), (9, InvalidRow), (10, InvalidRow)]:
            program = lone(*[("use", "v")] * many)
            if error is None:
                self.assertEqual(len(edited(program, [("guard", "a", 0, 0)])["a"]), 10)
                self.error_of(InvalidRow, edited, program, [("guard", "a", 0, 0), ("guard", "a", 1, 1)])
            else:
                self.error_of(error, edited, program, [("guard", "a", 3, 4)])
                self.error_of(error, is_cure, program, [("guard", "a", 3, 4)])

    def test_locks_too_many(self):
        program = lone(("rest",), locks=("k", "l"))
        self.error_of(InvalidName, edited, program, [("guard", "a", 0, 0)])
        self.error_of(InvalidName, is_cure, program, [("guard", "a", 0, 0)], turns=0)
        self.assertEqual(edited(program, [("skip", "a", 0)]), program)

    def test_rows_are_looked_at_ahead_of_locks(self):
        program = lone(*[("use", "v")] * 10, locks=("k", "l"))
        self.error_of(InvalidRow, edited, program, [("guard", "a", 0, 0)])

    def test_variables_that_are_called_like_the_lock(self):
        self.error_of(InvalidName, edited, lone(("rest",), common=("guard",)), [("guard", "a", 0, 0)])
        self.error_of(InvalidProgram, edited, lone(("rest",), own=("guard",)), [("guard", "a", 0, 0)])

    def test_edits_are_looked_at_first(self):
        program = lone(*[("use", "v")] * 10, locks=("k", "l"))
        edits = [("guard", "a", 0, 0), ("guard", "a", 0, 0)]
        self.refused(InvalidEdit, edits[1], edited, program, edits)


class TestIsCure(Case):
    def test_against_is_right(self):
        draw = random.Random("cures")
        counts = {True: 0, False: 0}
        for program in [*all_programs(), *mixed_programs(30, "cures")]:
            every = list(all_edits(program))
            for _ in range(3):
                edits = draw.sample(every, min(len(every), draw.randint(0, 3)))
                turns = draw.choice([1, 1, 2])
                if not are_joinable(edits):
                    continue
                try:
                    expected = is_right(Crowd(plain_edited(program, edits), turns=turns))
                except (HandleError, TooMany):
                    continue
                self.assertIs(is_cure(program, edits, turns=turns), expected)
                counts[expected] += 1
        self.assertGreater(min(counts.values()), 10)

    def test_one_turn_if_it_is_not_told(self):
        program = read("locks k\nsort a v w\n  lock k\n  open v\n  set w v\n  renew v\n  use w\n  unlock k")
        self.assertIs(is_cure(program, []), False)
        self.assertIs(is_cure(program, [], turns=2), True)
        self.assertIs(is_cure(turns=1, edits=[("skip", "a", 3)], program=program), True)

    def test_wrong_turns(self):
        for value in others():
            self.refused(InvalidNumber, value, is_cure, PAIR, [], turns=value)
        for turns in [0, 5, -1]:
            self.refused_like(InvalidNumber, turns, is_cure, PAIR, [], turns=turns)
        with self.assertRaises(TypeError):
            is_cure(PAIR, [], 1)

    def test_the_errors_in_their_order(self):
        self.refused(InvalidEdit, None, is_cure, PAIR, None, turns=0)
        self.refused(InvalidEdit, 7, is_cure, PAIR, [7], turns=0)
        self.error_of(InvalidRow, is_cure, lone(*[("use", "v")] * 10), [("guard", "a", 0, 0)], turns=0)
        wide = read(WIDE)
        self.refused_like(InvalidNumber, 5, is_cure, wide, [("skip", "a", 0)], turns=5)
        for turns, limit in [(4, 200000), (3, 1000)]:
            self.assertEqual(self.limit(is_cure, wide, [], turns=turns), limit)

    def limit(self, call, *args, **more):
        with self.assertRaises(TooMany) as caught:
            call(*args, **more)
        return caught.exception.limit


class TestLeastChanges(Case):
    def plain(self, program, menu, turns):
        """The least cures by a trial of all sets."""
        cures = []
        for many in range(len(menu) + 1):
            for edits in itertools.combinations(menu, many):
                try:
                    behind = plain_edited(program, edits) if are_joinable(edits) else None
                except HandleError:
                    continue
                if behind is not None and is_right(Crowd(behind, turns=turns)):
                    cures.append(edits)
        return [edits for edits in cures if not any(set(other) < set(edits) for other in cures)]

    def test_against_all_sets(self):
        draw = random.Random("menus")
        sizes = []
        for program in [PAIR, *all_programs(), *mixed_programs(40, "menus")]:
            every = list(all_edits(program))
            menu = draw.sample(every, min(len(every), 5))
            turns = draw.choice([1, 1, 2])
            try:
                expected = self.plain(program, menu, turns)
                told = least_changes(program, menu, turns=turns)
            except TooMany:
                continue
            self.assertEqual(told, expected)
            self.assertEqual(least_changes(program, tuple(menu), turns=turns), expected)
            self.assertEqual([type(told), *[type(edits) for edits in told]], [list] + [tuple] * len(told))
            sizes.extend(len(edits) for edits in told)
        self.assertGreater(len([size for size in sizes if size == 1]), 10)
        self.assertGreater(len([size for size in sizes if size > 1]), 3)

    def test_each_cure_is_one_and_no_proper_part_is(self):
        menu = [("guard", "user", 0, 1), ("drop", "user", 1), ("guard", "giver", 0, 1), ("skip", "giver", 1),
                ("guard", "giver", 1, 1), ("skip", "user", 0)]
        told = least_changes(PAIR, menu)
        for edits in told:
            self.assertIs(is_cure(PAIR, edits), True)
            for many in range(len(edits)):
                for fewer in itertools.combinations(edits, many):
                    self.assertIs(is_cure(PAIR, fewer), False)
        self.assertEqual(told, [(menu[1],), (menu[3],), (menu[5],), (menu[0], menu[2])])

    def test_the_order_is_that_of_the_menu(self):
        menu = [("guard", "user", 0, 1), ("guard", "giver", 0, 1), ("skip", "giver", 1), ("skip", "user", 1)]
        for order in itertools.permutations(menu):
            told = least_changes(PAIR, order)
            single = [(edit,) for edit in order if edit[0] == "skip"]
            self.assertEqual(told, [*single, tuple(edit for edit in order if edit[0] == "guard")])

    def test_sets_in_list_order(self):
        # One of two ends of a rope in each of two places, so that two edits are needed.
        program = read("common c\nsort a\n  open c\n  close c\n  close c\nsort b v\n  set v c\n  use v\n  use v")
        menu = [("skip", "a", 1), ("skip", "b", 1), ("skip", "a", 2), ("skip", "b", 2)]
        told = least_changes(program, menu)
        self.assertEqual(told, [(menu[0], menu[2]), (menu[1], menu[3])])
        self.assertEqual(least_changes(program, menu[::-1]), [(menu[3], menu[1]), (menu[2], menu[0])])

    def test_menus_of_all_sizes(self):
        self.assertEqual(least_changes(PAIR, []), [])
        self.assertEqual(least_changes(PAIR, ()), [])
        right = lone(("rest",))
        self.assertEqual(least_changes(right, []), [()])
        self.assertEqual(least_changes(right, [("skip", "a", 0), ("guard", "a", 0, 0)]), [()])
        rows = [("use", "v")] * 7
        six = [("skip", "a", at) for at in range(6)]
        self.assertEqual(least_changes(lone(*rows), six), [()])
        for menu in [[*six, ("skip", "a", 6)], (*six, six[0]), [*six, None], [None] * 7]:
            self.refused(InvalidEdit, menu, least_changes, lone(*rows), menu)

    def test_items_that_come_twice(self):
        edit, again = ("skip", "giver", 1), ("skip", "giver", 1)
        self.refused_like(InvalidEdit, edit, least_changes, PAIR, [edit, again])
        self.refused(InvalidEdit, 0, least_changes, PAIR, [edit, 0, again])

    def test_sets_that_cannot_be_made(self):
        menu = [("skip", "user", 1), ("drop", "user", 1)]
        self.assertEqual(least_changes(PAIR, menu), [(menu[0],), (menu[1],)])
        # Only both guards would help, but the lock would be one too many, or the rows.
        guards = [("guard", "user", 0, 1), ("guard", "giver", 0, 1)]
        program = Program(*PAIR.sorts, common=["c"], locks=["k", "l"])
        self.assertEqual(least_changes(program, guards), [])
        self.assertEqual(least_changes(PAIR, guards), [tuple(guards)])
        long = Sort("giver", [("rest",)] * 7 + [("open", "c"), ("close", "c")])
        program = Program(long, PAIR["user"], common=["c"])
        self.assertEqual(least_changes(program, [("guard", "user", 0, 1), ("guard", "giver", 7, 8)]), [])
        self.assertEqual(least_changes(program, [("guard", "user", 0, 1), ("skip", "giver", 8)]),
                         [(("skip", "giver", 8),)])

    def test_no_cure_at_all(self):
        self.assertEqual(least_changes(PAIR, [("guard", "user", 0, 1), ("skip", "giver", 0)]),
                         [(("skip", "giver", 0),)])
        self.assertEqual(least_changes(PAIR, [("guard", "user", 0, 1), ("guard", "giver", 1, 1)]), [])

    def test_turns(self):
        program = read("locks k\nsort a v w\n  lock k\n  open v\n  set w v\n  renew v\n  use w\n  unlock k")
        menu = [("skip", "a", 3), ("drop", "a", 4)]
        self.assertEqual(least_changes(program, menu), [(menu[0],), (menu[1],)])
        self.assertEqual(least_changes(program, menu, turns=2), [()])
        self.assertEqual(least_changes(turns=1, menu=menu, program=program), [(menu[0],), (menu[1],)])
        with self.assertRaises(TypeError):
            least_changes(program, menu, 1)

    def test_a_new_list_each_time(self):
        menu = [("skip", "giver", 1)]
        told = least_changes(PAIR, menu)
        told.clear()
        self.assertEqual(menu, [("skip", "giver", 1)])
        self.assertEqual(least_changes(PAIR, menu), [(("skip", "giver", 1),)])

    def test_wrong_turns(self):
        for value in others():
            self.refused(InvalidNumber, value, least_changes, PAIR, [], turns=value)
        for turns in [0, 5, -1]:
            self.refused_like(InvalidNumber, turns, least_changes, PAIR, [("skip", "user", 0)], turns=turns)

    def test_the_errors_in_their_order(self):
        self.refused(InvalidEdit, None, least_changes, PAIR, None, turns=0)
        self.refused(InvalidEdit, 7, least_changes, PAIR, [7], turns=0)
        wide = read(WIDE)
        self.refused_like(InvalidNumber, 0, least_changes, wide, [("skip", "a", 0)], turns=0)
        for turns, limit in [(4, 200000), (3, 1000)]:
            with self.assertRaises(TooMany) as caught:
                least_changes(wide, [("skip", "a", 0)], turns=turns)
            self.assertEqual(caught.exception.limit, limit)


if __name__ == "__main__":
    unittest.main()
