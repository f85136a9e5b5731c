"""The class Program of handlesagain/programs.py."""

import unittest

from helpers import Case, Stubborn, others

from handlesagain.errors import InvalidName, InvalidProgram, InvalidSort
from handlesagain.programs import Program, Sort

REST = ("rest",)


def plain(name):
    return Sort(name, [REST])


class TestExample(unittest.TestCase):
    def test_the_example_of_the_document(self):
        lone = Program.lone(Sort("a", [("open", "v"), ("go", 0, 2)], own=["v"]))
        told = [len(lone["a"]), lone["a"][1], ("rest",) in lone["a"], len(Program.pair()), "user" in Program.pair()]
        self.assertEqual(told, [2, ("go", 0, 2), False, 2, True])


class TestSorts(Case):
    def test_one_to_three_sorts(self):
        for names in ["a", "ab", "abc", "cab"]:
            sorts = tuple([plain(name) for name in names])
            program = Program(*sorts)
            self.assertIs(type(program.sorts), tuple)
            self.assertEqual(program.sorts, sorts)
            self.assertEqual(len(program), len(names))

    def test_no_sort(self):
        self.refused_like(InvalidSort, (), Program)
        self.refused_like(InvalidSort, (), Program, common=["c"], locks=["k"])

    def test_four_sorts(self):
        sorts = tuple([plain(name) for name in "abcd"])
        self.refused_like(InvalidSort, sorts, Program, *sorts)

    def test_sorts_of_one_name(self):
        for names in ["aa", "aab", "aba", "baa", "aaa"]:
            sorts = tuple([plain(name) for name in names])
            self.refused_like(InvalidSort, sorts, Program, *sorts)
        self.refused_like(InvalidSort, (plain("a"), Sort("a", [REST, REST])), Program,
                          plain("a"), Sort("a", [REST, REST]))

    def test_other_objects_for_sorts(self):
        for value in others() + ["a", "giver", [plain("a")], (plain("a"),), Program(plain("a")), Sort]:
            for sorts in [(value,), (plain("a"), value), (value, plain("a")), (plain("a"), plain("b"), value)]:
                error = self.error_of(InvalidSort, Program, *sorts)
                self.assertIs(type(error.value), tuple)
                self.assertEqual(len(error.value), len(sorts))
                for kept, given in zip(error.value, sorts):
                    self.assertTrue(kept is given)


class TestNames(Case):
    def test_none_if_none_are_told(self):
        program = Program(plain("a"))
        self.assertEqual((program.common, program.locks), ((), ()))

    def test_lists_and_tuples_become_tuples(self):
        for many in [list, tuple]:
            for names in ["", "c", "cd", "dc"]:
                program = Program(plain("a"), common=many(names))
                self.assertIs(type(program.common), tuple)
                self.assertEqual((program.common, program.locks), (tuple(names), ()))
                program = Program(plain("a"), locks=many(names))
                self.assertIs(type(program.locks), tuple)
                self.assertEqual((program.common, program.locks), ((), tuple(names)))

    def test_two_and_two(self):
        program = Program(plain("a"), common=["c", "d"], locks=["k", "l"])
        self.assertEqual((program.common, program.locks), (("c", "d"), ("k", "l")))

    def test_later_changes_of_the_lists_have_no_effect(self):
        common, locks = ["c"], ["k"]
        program = Program(plain("a"), common=common, locks=locks)
        common.append("d")
        locks[0] = "l"
        self.assertEqual((program.common, program.locks), (("c",), ("k",)))
        self.assertEqual(locks, ["l"])

    def test_arguments_are_not_changed(self):
        common, locks = ["d", "c"], ["l", "k"]
        Program(plain("a"), common=common, locks=locks)
        self.assertEqual((common, locks), (["d", "c"], ["l", "k"]))

    def test_wrong_names(self):
        wrong = [["c", "d", "e"], ("c", "d", "e"), ["c", "c"], ("c", "c"), [""], ["C"], ["c1"], ["abcdefghi"],
                 ["c", ""], ["c", None], [0], [True], [["c"]], ["c", ["d"]], [Stubborn(), Stubborn()], "", "c", "cd",
                 None, 0, True, {}, {"c": 1}, {"c"}, iter(["c"]), b"c", Stubborn(), len]
        for names in wrong:
            self.refused(InvalidName, names, Program, plain("a"), common=names)
            self.refused(InvalidName, names, Program, plain("a"), locks=names)
            self.refused(InvalidName, names, Program, plain("a"), common=["x"], locks=names)

    def test_locks_with_names_of_common_variables(self):
        for common, locks in [("c", "c"), ("cd", "d"), ("cd", "kc"), ("cd", "ck"), ("cd", "cd"), ("c", "kc")]:
            locks = list(locks)
            self.refused(InvalidName, locks, Program, plain("a"), common=list(common), locks=locks)
            locks = tuple(locks)
            self.refused(InvalidName, locks, Program, plain("a"), common=tuple(common), locks=locks)

    def test_sorts_may_have_the_name_of_a_variable_or_lock(self):
        program = Program(Sort("c", [("use", "c")]), Sort("k", [("lock", "k")]), Sort("v", [("use", "v")], own=["v"]),
                          common=["c"], locks=["k"])
        self.assertEqual(len(program), 3)

    def test_common_and_locks_only_by_name(self):
        common = ["c"]
        self.refused_like(InvalidSort, (plain("a"), common), Program, plain("a"), common)


class TestFitting(Case):
    def misfit(self, name, *sorts, **more):
        self.refused_like(InvalidProgram, name, Program, *sorts, **more)

    def test_sorts_may_have_own_variables_of_the_same_names(self):
        one = Sort("a", [("open", "v"), ("close", "w")], own=["v", "w"])
        other = Sort("b", [("renew", "w"), ("set", "v", "w")], own=["w", "v"])
        self.assertEqual(Program(one, other).sorts, (one, other))

    def test_an_own_variable_with_the_name_of_a_common_one(self):
        for own in [["c"], ["c", "v"], ["v", "c"], ["d"], ["v", "d"]]:
            self.misfit("a", Sort("a", [REST], own=own), common=["c", "d"])

    def test_an_own_variable_with_the_name_of_a_lock(self):
        for own in [["k"], ["k", "v"], ["v", "k"], ["l"], ["v", "l"]]:
            self.misfit("a", Sort("a", [REST], own=own), locks=["k", "l"])

    def test_rows_with_own_and_common_variables(self):
        rows = [(word, name) for word in ["open", "close", "renew", "use", "drop"] for name in ["v", "c"]]
        self.assertEqual(Program(Sort("a", rows, own=["v"]), common=["c"])["a"].rows, tuple(rows))
        rows = [("set", one, other) for one in "vwcd" for other in "vc"]
        self.assertEqual(Program(Sort("a", rows, own=["v", "w"]), common=["c", "d"])["a"].rows, tuple(rows))

    def test_rows_with_locks(self):
        rows = [("lock", "k"), ("unlock", "l"), ("lock", "l"), ("unlock", "k")]
        self.assertEqual(Program(Sort("a", rows), locks=["k", "l"])["a"].rows, tuple(rows))

    def test_rows_with_unknown_variables(self):
        for row in [("open", "x"), ("close", "x"), ("renew", "x"), ("use", "x"), ("drop", "x"), ("set", "x", "v"),
                    ("set", "v", "x"), ("set", "x", "c"), ("set", "c", "x"), ("set", "x", "x")]:
            for rows in [[row], [REST, row], [row, REST], [REST, row, REST]]:
                self.misfit("a", Sort("a", rows, own=["v"]), common=["c"], locks=["k"])

    def test_rows_with_unknown_locks(self):
        for row in [("lock", "m"), ("unlock", "m")]:
            self.misfit("a", Sort("a", [row]))
            self.misfit("a", Sort("a", [REST, row, REST], own=["v"]), common=["c"], locks=["k"])

    def test_locks_are_no_variables_and_variables_no_locks(self):
        for row in [("open", "k"), ("close", "k"), ("renew", "k"), ("use", "k"), ("drop", "k"), ("set", "k", "c"),
                    ("set", "c", "k"), ("lock", "c"), ("unlock", "c"), ("lock", "v"), ("unlock", "v")]:
            self.misfit("a", Sort("a", [row], own=["v"]), common=["c"], locks=["k"])

    def test_own_variables_of_another_sort_are_unknown(self):
        self.misfit("b", Sort("a", [("use", "v")], own=["v"]), Sort("b", [("use", "v")]))
        self.misfit("a", Sort("a", [("use", "v")]), Sort("b", [("use", "v")], own=["v"]))

    def test_names_of_sorts_are_no_variables(self):
        self.misfit("a", Sort("a", [("use", "b")]), plain("b"))

    def test_the_first_sort_that_does_not_fit_is_told(self):
        takes = Sort("takes", [REST], own=["c"])
        holds = Sort("holds", [REST], own=["k"])
        reads = Sort("reads", [("use", "x")])
        locks = Sort("locks", [("lock", "m")])
        bad = [takes, holds, reads, locks]
        for one in bad:
            for other in bad:
                if one != other:
                    self.misfit(one.name, one, other, common=["c"], locks=["k"])
                    self.misfit(one.name, plain("a"), one, other, common=["c"], locks=["k"])
            self.misfit(one.name, one, plain("a"), common=["c"], locks=["k"])
            self.misfit(one.name, plain("a"), plain("b"), one, common=["c"], locks=["k"])


class TestOrderOfErrors(Case):
    def test_sorts_then_common_then_locks_then_fitting(self):
        bad = Sort("a", [("use", "x")])
        self.refused_like(InvalidSort, (None,), Program, None, common=None, locks=None)
        self.refused_like(InvalidSort, (bad, bad), Program, bad, bad, common=None, locks=None)
        self.refused_like(InvalidName, "c", Program, bad, common="c", locks="k")
        self.refused_like(InvalidName, "k", Program, bad, common=["c"], locks="k")
        self.refused_like(InvalidName, ["c"], Program, bad, common=["c"], locks=["c"])
        self.refused_like(InvalidName, ["c", "c"], Program, bad, common=["c", "c"], locks=["c"])
        self.refused_like(InvalidProgram, "a", Program, bad, common=["c"], locks=["k"])


class TestReading(Case):
    def test_sorts_by_name(self):
        program = Program(plain("a"), plain("b"), Sort("abcdefgh", [REST, REST]))
        self.assertEqual([program["a"], program["b"], program["abcdefgh"]], list(program.sorts))

    def test_names_that_no_sort_has(self):
        program = Program(plain("a"), plain("b"), common=["c"], locks=["k"])
        for name in ["d", "c", "k", "", "A", "ab", "a ", 0, 1, ("a",), ["a"], b"a", slice(0, 1), plain("a"),
                     "abcdefghi"] + others():
            self.refused(InvalidName, name, program.__getitem__, name)

    def test_wrong_names_by_the_sign(self):
        with self.assertRaises(InvalidName):
            Program.pair()["c"]
        with self.assertRaises(InvalidName):
            Program.pair()[0]

    def test_length(self):
        self.assertEqual([len(Program(*map(plain, names))) for names in ["a", "ab", "abc"]], [1, 2, 3])

    def test_not_iterated(self):
        with self.assertRaises(TypeError):
            iter(Program.pair())
        with self.assertRaises(TypeError):
            list(Program.pair())

    def test_names_of_sorts_are_in_the_program(self):
        program = Program(plain("a"), plain("b"), common=["c"], locks=["k"])
        for name in ["a", "b"]:
            self.assertIs(name in program, True)
        for name in ["c", "k", "", "ab", "A", 0, 1, ("a",), ["a"], b"a", plain("a"), "abcdefghi"] + others():
            self.assertIs(name in program, False)


class TestEquality(unittest.TestCase):
    def test_equal_properties(self):
        one = Program(plain("a"), plain("b"), common=["c"], locks=["k"])
        other = Program(plain("a"), plain("b"), common=("c",), locks=("k",))
        self.assertTrue(one == other)
        self.assertFalse(one != other)

    def test_each_property_counts(self):
        one = Program(plain("a"), plain("b"), common=["c"], locks=["k"])
        for other in [Program(plain("b"), plain("a"), common=["c"], locks=["k"]),
                      Program(plain("a"), common=["c"], locks=["k"]),
                      Program(plain("a"), plain("b"), plain("d"), common=["c"], locks=["k"]),
                      Program(plain("a"), Sort("b", [REST, REST]), common=["c"], locks=["k"]),
                      Program(plain("a"), Sort("b", [REST], own=["v"]), common=["c"], locks=["k"]),
                      Program(plain("a"), plain("b"), common=["d"], locks=["k"]),
                      Program(plain("a"), plain("b"), locks=["k"]),
                      Program(plain("a"), plain("b"), common=["c"], locks=["l"]),
                      Program(plain("a"), plain("b"), common=["c"]),
                      Program(plain("a"), plain("b"), common=["k"], locks=["c"])]:
            self.assertFalse(one == other)
            self.assertTrue(one != other)

    def test_the_order_of_names_counts(self):
        self.assertFalse(Program(plain("a"), common=["c", "d"]) == Program(plain("a"), common=["d", "c"]))
        self.assertFalse(Program(plain("a"), locks=["k", "l"]) == Program(plain("a"), locks=["l", "k"]))

    def test_objects_of_other_classes(self):
        program = Program(plain("a"))
        for other in [None, "a", 1, True, (plain("a"),), plain("a"), ((plain("a"),), (), ()), object()]:
            self.assertFalse(program == other)
            self.assertTrue(program != other)


class TestJoining(Case):
    def test_the_sorts_of_one_and_then_those_of_the_other(self):
        for names, more in [("a", "b"), ("b", "a"), ("ab", "c"), ("c", "ab")]:
            joined = Program(*map(plain, names)) | Program(*map(plain, more))
            self.assertEqual(joined, Program(*map(plain, names + more)))

    def test_common_and_locks_are_kept(self):
        one = Program(Sort("a", [("use", "c")]), common=["c", "d"], locks=["k", "l"])
        other = Program(Sort("b", [("lock", "l")], own=["v"]), common=["c", "d"], locks=["k", "l"])
        joined = one | other
        self.assertEqual((joined.sorts, joined.common, joined.locks),
                         (one.sorts + other.sorts, ("c", "d"), ("k", "l")))

    def test_the_programs_themselves_stay(self):
        one, other = Program(plain("a")), Program(plain("b"))
        one | other
        self.assertEqual((one, other), (Program(plain("a")), Program(plain("b"))))
        joined = one
        joined |= other
        self.assertEqual((one, len(joined)), (Program(plain("a")), 2))

    def test_common_variables_or_locks_that_differ(self):
        one = Program(plain("a"), common=["c", "d"], locks=["k", "l"])
        for common, locks in [("cd", "lk"), ("dc", "kl"), ("cd", "k"), ("c", "kl"), ("", "kl"), ("cd", ""), ("", ""),
                              ("kl", "cd")]:
            other = Program(plain("b"), common=list(common), locks=list(locks))
            self.refused(InvalidProgram, other, lambda: one | other)
            self.refused(InvalidProgram, one, lambda: other | one)

    def test_too_many_sorts(self):
        one, other = Program(plain("a"), plain("b")), Program(plain("d"), plain("e"))
        self.refused_like(InvalidSort, one.sorts + other.sorts, lambda: one | other)

    def test_sorts_of_one_name(self):
        one, other = Program(plain("a"), plain("b")), Program(plain("b"))
        self.refused_like(InvalidSort, one.sorts + other.sorts, lambda: one | other)
        self.refused_like(InvalidSort, other.sorts + one.sorts, lambda: other | one)
        self.refused_like(InvalidSort, one.sorts + one.sorts, lambda: one | one)

    def test_what_differs_is_looked_at_first(self):
        one = Program(plain("a"), plain("b"), common=["c"])
        other = Program(plain("a"), plain("b"), plain("e"), common=["d"])
        self.refused(InvalidProgram, other, lambda: one | other)


class TestReadyPrograms(Case):
    def test_lone(self):
        sort = Sort("a", [("open", "v"), REST], own=["v", "w"])
        self.assertEqual(Program.lone(sort), Program(sort))
        self.assertEqual(Program.lone(sort=sort).sorts, (sort,))
        self.assertEqual((Program.lone(sort).common, Program.lone(sort).locks), ((), ()))

    def test_lone_with_a_sort_that_needs_more(self):
        self.refused_like(InvalidProgram, "a", Program.lone, Sort("a", [("use", "c")]))

    def test_pair(self):
        pair = Program.pair()
        self.assertEqual(pair.sorts, (Sort("giver", [("open", "c"), ("close", "c")]),
                                      Sort("user", [("set", "v", "c"), ("use", "v")], own=["v"])))
        self.assertEqual((pair.common, pair.locks), (("c",), ()))

    def test_both_can_be_called_off_an_object(self):
        self.assertEqual(Program.pair().pair(), Program.pair())
        self.assertEqual(Program.pair().lone(plain("a")), Program(plain("a")))


if __name__ == "__main__":
    unittest.main()
