"""The class Sort of handlesagain/programs.py."""

import unittest

from helpers import Case, Stubborn, others

from handlesagain.errors import InvalidName, InvalidNumber, InvalidRow
from handlesagain.programs import Program, Sort

REST = ("rest",)
ROWS = [("open", "v"), ("go", 0, 2), ("use", "v")]


def example():
    return Sort("a", ROWS, own=["v"])


class TestMaking(Case):
    def test_properties(self):
        sort = example()
        self.assertEqual((sort.name, sort.rows, sort.own), ("a", tuple(ROWS), ("v",)))

    def test_lists_and_tuples_become_tuples(self):
        for many in [list, tuple]:
            sort = Sort("a", many(ROWS), own=many(["v", "w"]))
            self.assertIs(type(sort.rows), tuple)
            self.assertIs(type(sort.own), tuple)
            self.assertEqual(sort.rows, tuple(ROWS))
            self.assertEqual(sort.own, ("v", "w"))

    def test_no_own_variables_if_none_are_told(self):
        self.assertEqual(Sort("a", [REST]).own, ())
        self.assertEqual(Sort("a", [REST], own=[]).own, ())

    def test_arguments_by_name(self):
        self.assertEqual(Sort(name="a", rows=ROWS, own=["v"]), example())
        self.assertEqual(Sort(own=["v"], rows=ROWS, name="a"), example())

    def test_own_only_by_name(self):
        with self.assertRaises(TypeError):
            Sort("a", ROWS, ["v"])

    def test_name_and_rows_are_needed(self):
        with self.assertRaises(TypeError):
            Sort("a")
        with self.assertRaises(TypeError):
            Sort(rows=ROWS)

    def test_later_changes_of_the_lists_have_no_effect(self):
        rows, own = list(ROWS), ["v"]
        sort = Sort("a", rows, own=own)
        rows.append(REST)
        rows[0] = REST
        own.append("w")
        own[0] = "u"
        self.assertEqual((sort.rows, sort.own, len(sort)), (tuple(ROWS), ("v",), 3))
        self.assertEqual(sort, example())

    def test_arguments_are_not_changed(self):
        rows, own = list(ROWS), ["w", "v"]
        sort = Sort("a", rows, own=own)
        sort.changed(0, REST)
        self.assertEqual((rows, own), (ROWS, ["w", "v"]))

    def test_variables_of_rows_may_be_unknown_to_the_sort(self):
        rows = [("use", "x"), ("lock", "k"), ("set", "y", "z")]
        self.assertEqual(Sort("a", rows).rows, tuple(rows))

    def test_the_order_of_own_variables_is_kept(self):
        self.assertEqual(Sort("a", [REST], own=["w", "v"]).own, ("w", "v"))


class TestNames(Case):
    def test_names_of_1_to_8_letters(self):
        for name in ["a", "z", "abcdefgh", "open"]:
            self.assertEqual(Sort(name, [REST]).name, name)

    def test_what_is_no_name(self):
        for name in ["", "abcdefghi", "A", "a1", "a b", " a", "a\n", "a_"] + others():
            self.refused(InvalidName, name, Sort, name, [REST])


class TestRows(Case):
    def test_one_to_ten_rows(self):
        for many in [1, 2, 9, 10]:
            self.assertEqual(Sort("a", [REST] * many).rows, (REST,) * many)

    def test_no_row_and_eleven_rows(self):
        for rows in [[], (), [REST] * 11, (REST,) * 11, [REST] * 50]:
            self.refused(InvalidRow, rows, Sort, "a", rows)

    def test_rows_that_are_no_list_or_tuple(self):
        for rows in [None, True, 0, 3, "rest", b"rest", {"rest": 1}, {REST}, {REST: 1}, iter([REST]), Stubborn(), len]:
            self.refused(InvalidRow, rows, Sort, "a", rows)

    def test_items_that_are_no_rows(self):
        for row in others() + ["rest", ["rest"], ("go", True), ("go",), ("open", "V"), ("go", 0, 0, 0, 0, 0)]:
            self.refused(InvalidRow, row, Sort, "a", [row])
            self.refused(InvalidRow, row, Sort, "a", (REST, row, REST))

    def test_go_as_far_as_behind_the_last_row(self):
        for many in range(1, 11):
            row = ("go", many)
            rows = [REST] * (many - 1) + [row]
            self.assertEqual(Sort("a", rows).rows, tuple(rows))
            self.assertEqual(Sort("a", list(reversed(rows))).rows, tuple(reversed(rows)))

    def test_go_too_far(self):
        for many in range(1, 11):
            for row in [("go", many + 1), ("go", 0, many + 1), ("go", many + 1, 0), ("go", 0, 0, 0, many + 1),
                        ("go", 0, many + 1, 0), ("go", 10 ** 100)]:
                self.refused(InvalidRow, row, Sort, "a", [REST] * (many - 1) + [row])
                self.refused(InvalidRow, row, Sort, "a", [row] + [REST] * (many - 1))

    def test_the_first_bad_row_is_told(self):
        far, bad = ("go", 9), ["rest"]
        self.refused(InvalidRow, far, Sort, "a", [REST, far, bad])
        self.refused(InvalidRow, bad, Sort, "a", [REST, bad, far])
        first, second = ("go", 8), ("go", 9)
        self.refused(InvalidRow, first, Sort, "a", [first, second])

    def test_too_many_rows_are_told_ahead_of_a_bad_one(self):
        rows = [None] * 11
        self.refused(InvalidRow, rows, Sort, "a", rows)


class TestOwn(Case):
    def test_up_to_two(self):
        for own in [[], ["v"], ["v", "w"], ["abcdefgh", "z"]]:
            self.assertEqual(Sort("a", [REST], own=own).own, tuple(own))

    def test_too_many_alike_or_no_names(self):
        for own in [["v", "w", "x"], ("v", "w", "x"), ["v", "v"], ("v", "v"), ["v", "v", "v"], [""], ["V"], ["v1"],
                    ["abcdefghi"], ["v", ""], ["", "v"], ["v", None], [0], [True], [["v"]], ["v", ["w"]], ["v", b"w"],
                    [Stubborn(), Stubborn()], ("v", Stubborn())]:
            self.refused(InvalidName, own, Sort, "a", [REST], own=own)

    def test_own_that_is_no_list_or_tuple(self):
        for own in ["", "v", "vw", None, 0, True, {}, {"v": 1}, {"v"}, set(), iter(["v"]), b"v", b"", Stubborn(), len]:
            self.refused(InvalidName, own, Sort, "a", [REST], own=own)


class TestOrderOfErrors(Case):
    def test_name_then_rows_then_row_then_own(self):
        self.refused(InvalidName, "A", Sort, "A", [], own=None)
        self.refused(InvalidName, "A", Sort, "A", [None], own=None)
        rows = []
        self.refused(InvalidRow, rows, Sort, "a", rows, own="v")
        row = ("go", 2)
        self.refused(InvalidRow, row, Sort, "a", [row], own="v")
        own = ["v", "v"]
        self.refused(InvalidName, own, Sort, "a", [REST], own=own)


class TestReading(Case):
    def test_items(self):
        sort = example()
        self.assertEqual([sort[at] for at in range(3)], ROWS)

    def test_wrong_indexes(self):
        sort = example()
        for at in [3, 4, -1, -3, 10 ** 100, -10 ** 100, True, False, "0", "a", None, (0,), [0], slice(0, 1),
                   Stubborn(), len]:
            self.refused(InvalidNumber, at, sort.__getitem__, at)

    def test_wrong_indexes_by_the_sign(self):
        with self.assertRaises(InvalidNumber):
            example()[-1]
        with self.assertRaises(InvalidNumber):
            example()[True]
        with self.assertRaises(InvalidNumber):
            example()[0:1]

    def test_length(self):
        for many in [1, 3, 10]:
            self.assertEqual(len(Sort("a", [REST] * many, own=["v", "w"])), many)

    def test_not_iterated(self):
        with self.assertRaises(TypeError):
            iter(example())
        with self.assertRaises(TypeError):
            list(example())

    def test_rows_are_in_the_sort(self):
        sort = example()
        for row in ROWS:
            self.assertIs(row in sort, True)
        for row in [REST, ("open", "w"), ("go", 0), ("go", 2, 0), ("go", 0, 1), ("close", "v"), ("use", "v", "v")]:
            self.assertIs(row in sort, False)

    def test_true_and_false_do_not_stand_for_integers(self):
        sort = Sort("a", [("go", 0, 1), ("go", 1), ("go", 0)])
        for row in [("go", 0, 1), ("go", 1), ("go", 0)]:
            self.assertIs(row in sort, True)
        for row in [("go", False, 1), ("go", 0, True), ("go", False, True), ("go", True), ("go", False)]:
            self.assertIs(row in sort, False)

    def test_other_objects_are_not_in_the_sort(self):
        sort = example()
        for value in others() + ["a", "v", "open", 0, ["open", "v"], ["go", 0, 2], sort, (("open", "v"),)]:
            self.assertIs(value in sort, False)


class TestEquality(unittest.TestCase):
    def test_equal_properties(self):
        self.assertTrue(example() == Sort("a", tuple(ROWS), own=("v",)))
        self.assertFalse(example() != Sort("a", tuple(ROWS), own=("v",)))

    def test_each_property_counts(self):
        for other in [Sort("b", ROWS, own=["v"]), Sort("a", ROWS[:2], own=["v"]), Sort("a", ROWS, own=["w"]),
                      Sort("a", ROWS), Sort("a", ROWS, own=["v", "w"]), Sort("a", ROWS + [REST], own=["v"]),
                      Sort("a", [ROWS[1], ROWS[0], ROWS[2]], own=["v"])]:
            self.assertFalse(example() == other)
            self.assertTrue(example() != other)

    def test_the_order_of_own_variables_counts(self):
        self.assertFalse(Sort("a", [REST], own=["v", "w"]) == Sort("a", [REST], own=["w", "v"]))

    def test_objects_of_other_classes(self):
        sort = example()
        for other in [None, "a", 3, True, ("a", tuple(ROWS), ("v",)), tuple(ROWS), ROWS, Program(sort), object()]:
            self.assertFalse(sort == other)
            self.assertTrue(sort != other)


class TestChanged(Case):
    def test_another_row(self):
        for at in range(3):
            rows = list(ROWS)
            rows[at] = ("drop", "v")
            self.assertEqual(example().changed(at, ("drop", "v")), Sort("a", rows, own=["v"]))

    def test_arguments_by_name(self):
        self.assertEqual(example().changed(row=REST, at=2).rows, (*ROWS[:2], REST))

    def test_the_sort_itself_stays(self):
        sort = example()
        sort.changed(0, REST)
        self.assertEqual(sort, example())

    def test_the_same_row(self):
        self.assertEqual(example().changed(0, ROWS[0]), example())

    def test_one_and_ten_rows(self):
        self.assertEqual(Sort("a", [REST]).changed(0, ("go", 1)), Sort("a", [("go", 1)]))
        self.assertEqual(Sort("a", [REST] * 10).changed(9, ("go", 10)), Sort("a", [REST] * 9 + [("go", 10)]))

    def test_wrong_places(self):
        for at in [3, -1, -3, True, False, 10 ** 100, "0", None, (0,), slice(0, 1), Stubborn()]:
            self.refused(InvalidNumber, at, example().changed, at, REST)

    def test_wrong_rows(self):
        for row in others() + ["rest", ["rest"], ("go",), ("go", 4), ("go", 0, 4), ("go", True), ("open", "V"), ROWS]:
            for at in range(3):
                self.refused(InvalidRow, row, example().changed, at, row)

    def test_go_behind_the_last_row(self):
        self.assertEqual(example().changed(0, ("go", 3))[0], ("go", 3))

    def test_the_place_is_looked_at_first(self):
        self.refused(InvalidNumber, 3, example().changed, 3, None)

    def test_a_refused_change_changes_nothing(self):
        sort = example()
        self.refused(InvalidRow, None, sort.changed, 0, None)
        self.assertEqual(sort, example())


if __name__ == "__main__":
    unittest.main()
