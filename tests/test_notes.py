"""handlesagain/notes.py."""

import unittest

from helpers import Case, Stubborn, others

from handlesagain.errors import InvalidName, InvalidStep
from handlesagain.notes import Notes

NAMES = ["a", "z", "abcdefgh", "run", "runs", "zz", "b"]
NO_NAMES = ["", "A", "abcdefghi", "a b", "a1", "_a", "a\n", " a", "a ", "-", "0", *[name.encode() for name in NAMES]]
RUNS = [[], (), [(0, 0)], ((0, 0), (1, 2)), [(0, 0), (0, 0), (29, 59)], ((10 ** 30, 10 ** 199),), [(3, 0)] * 2000]


def put(notes, name, run):
    notes[name] = run


class TestNotes(Case):
    def test_names_and_runs_of_every_kind(self):
        for name in NAMES:
            for run in RUNS:
                notes = Notes()
                notes[name] = run
                self.assertEqual(notes[name], tuple(run))
                self.assertIs(type(notes[name]), tuple)
                self.assertEqual(len(notes), 1)

    def test_nothing_at_first(self):
        notes = Notes()
        self.assertEqual((len(notes), notes.listed(), "a" in notes), (0, (), False))
        self.refused_like(InvalidName, "a", lambda: notes["a"])

    def test_an_argument_that_is_changed_later(self):
        notes, run = Notes(), [(0, 0), (1, 0)]
        notes["a"] = run
        run[0] = (2, 2)
        run.append((3, 3))
        self.assertEqual(notes["a"], ((0, 0), (1, 0)))
        run.clear()
        self.assertEqual(notes.listed(), (("a", ((0, 0), (1, 0))),))

    def test_the_same_name_twice(self):
        notes = Notes()
        notes["b"], notes["a"] = [(0, 0)], [(1, 1)]
        notes["b"] = ((2, 2), (3, 3))
        self.assertEqual(notes["b"], ((2, 2), (3, 3)))
        self.assertEqual(len(notes), 2)
        notes["b"] = ()
        self.assertEqual(notes.listed(), (("a", ((1, 1),)), ("b", ())))

    def test_listed_is_sorted(self):
        notes = Notes()
        for at, name in enumerate(NAMES):
            notes[name] = [(at, 0)]
        expected = tuple((name, ((NAMES.index(name), 0),)) for name in sorted(NAMES))
        self.assertEqual(notes.listed(), expected)
        self.assertEqual([type(notes.listed()), type(notes.listed()[0])], [tuple, tuple])

    def test_what_is_there(self):
        notes = Notes()
        for name in NAMES[:3]:
            put(notes, name, [])
        for name in NAMES:
            self.assertIs(name in notes, name in NAMES[:3])
        for value in [*NO_NAMES, *others()]:
            self.assertIs(value in notes, False)

    def test_two_tables_of_notes(self):
        one, other = Notes(), Notes()
        one["a"] = [(0, 0)]
        other["b"] = [(1, 1)]
        other["a"] = [(2, 2)]
        self.assertEqual(one.listed(), (("a", ((0, 0),)),))
        self.assertEqual(other.listed(), (("a", ((2, 2),)), ("b", ((1, 1),))))

    def test_what_is_no_name(self):
        notes = Notes()
        notes["a"] = [(0, 0)]
        for value in [*NO_NAMES, *others()]:
            self.refused(InvalidName, value, put, notes, value, [(1, 1)])
            self.refused(InvalidName, value, put, notes, value, None)
            self.refused(InvalidName, value, lambda at: notes[at], value)
        self.refused_like(InvalidName, "b", lambda: notes["b"])
        self.assertEqual(notes.listed(), (("a", ((0, 0),)),))

    def test_what_is_no_run(self):
        notes = Notes()
        notes["a"] = [(0, 0)]
        values = [value for value in others() if not isinstance(value, (list, tuple)) or len(value) > 0]
        for step in [(0,), (0, 0, 0), [0, 0], (0, -1), (-1, 0), (True, 0), (0, False), (0, None), ("0", 0), (0, 0.0),
                     "00", None, 0, (), ((0, 0),), Stubborn(), (Stubborn(), 0), (0, Stubborn())]:
            values += [[step], (step,), [(0, 0), step], ((0, 0), step, (0, 0))]
        for value in [*values, "", "a", {(0, 0): 1}, {(0, 0)}, range(2), b"", iter([(0, 0)]), (0, 0)]:
            self.refused(InvalidStep, value, put, notes, "a", value)
            self.refused(InvalidStep, value, put, notes, "b", value)
        self.assertEqual(notes.listed(), (("a", ((0, 0),)),))
        self.assertIs("b" in notes, False)

    def test_notes_are_not_iterated_over(self):
        notes = Notes()
        notes["a"] = []
        for call in [list, iter, tuple, sorted]:
            with self.assertRaises(TypeError):
                call(notes)

    def test_notes_are_equal_to_themselves_alone(self):
        one, other = Notes(), Notes()
        self.assertEqual(one, one)
        self.assertNotEqual(one, other)


if __name__ == "__main__":
    unittest.main()
