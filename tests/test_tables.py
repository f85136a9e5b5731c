"""The class Table of handlesagain/tables.py, without long histories: those are in test_histories.py."""

import unittest

from helpers import Case, Stubborn, others

from handlesagain.errors import InvalidBook, InvalidNumber
from handlesagain.handles import Handle
from handlesagain.tables import BOOKS, Table

SIZES = range(1, 7)
TURNS = range(1, 5)


def state(table):
    """All that a table tells of itself."""
    return (table.size, table.book, table.turns, table.free(), len(table), [table[at] for at in range(table.size)])


def filled(size, **more):
    """A table in which each number leads to a thing, and the handles by number."""
    table = Table(size, **more)
    handles = [table.give() for _ in range(size)]
    return table, sorted(handles, key=lambda handle: handle.number)


class TestExample(unittest.TestCase):
    def test_the_example_of_the_document(self):
        table = Table(2, book="last")
        one, other = table.give(), table.give()
        told = [table.close(one), table.use(one), table.give().text, table.use(one), len(table), table.free()]
        self.assertEqual(told, ["done", "refused", "0.0", "fault", 2, ()])


class TestMaking(Case):
    def test_books(self):
        self.assertIs(type(BOOKS), tuple)
        self.assertEqual(BOOKS, ("least", "any", "next", "last"))

    def test_properties(self):
        for size in [1, 2, 59, 60]:
            for book in BOOKS:
                for turns in TURNS:
                    table = Table(size, book=book, turns=turns)
                    self.assertEqual((table.size, table.book, table.turns), (size, book, turns))

    def test_least_and_one_turn_if_they_are_not_told(self):
        table = Table(3)
        self.assertEqual((table.book, table.turns), ("least", 1))

    def test_arguments_by_name(self):
        table = Table(turns=2, book="any", size=3)
        self.assertEqual((table.size, table.book, table.turns), (3, "any", 2))

    def test_book_and_turns_only_by_name(self):
        with self.assertRaises(TypeError):
            Table(3, "any")
        with self.assertRaises(TypeError):
            Table(3, "any", 2)

    def test_properties_cannot_be_assigned(self):
        for name in ["size", "book", "turns"]:
            with self.assertRaises(AttributeError):
                setattr(Table(1), name, 1)

    def test_wrong_sizes(self):
        for size in [0, 61, 62, -1, 10 ** 30, True, False, "1", (1,)] + others():
            self.refused(InvalidNumber, size, Table, size)

    def test_wrong_books(self):
        for book in ["", "Least", "leas", "first", "least ", b"least", ("least",), 0, BOOKS] + others():
            self.refused(InvalidBook, book, Table, 1, book=book)

    def test_wrong_turns(self):
        for turns in [0, 5, 6, -1, 10 ** 30, True, False, "1", (1,)] + others():
            self.refused(InvalidNumber, turns, Table, 1, turns=turns)

    def test_size_then_book_then_turns(self):
        self.refused(InvalidNumber, 61, Table, 61, book="x", turns=7)
        self.refused(InvalidNumber, 61, Table, 61, turns=7)
        self.refused(InvalidBook, "x", Table, 60, book="x", turns=7)
        self.refused(InvalidNumber, 7, Table, 60, book="any", turns=7)


class TestBeginning(Case):
    def test_free(self):
        for size in SIZES:
            for turns in TURNS:
                self.assertEqual(Table(size, book="any", turns=turns).free(), tuple(range(size)))
                for book in ["least", "next", "last"]:
                    self.assertEqual(Table(size, book=book, turns=turns).free(), (0,))

    def test_numbers_are_given_ascending(self):
        for size in SIZES:
            for turns in TURNS:
                for book in BOOKS:
                    table = Table(size, book=book, turns=turns)
                    handles = [table.give() for _ in range(size)]
                    told = [(handle.number, handle.turn, handle.entry) for handle in handles]
                    self.assertEqual(told, [(number, 0, number) for number in range(size)])

    def test_free_and_giving_when_all_are_given(self):
        for size in SIZES:
            for book in BOOKS:
                table, _ = filled(size, book=book)
                before = state(table)
                self.assertEqual(table.free(), ())
                self.assertIs(table.give(), None)
                self.assertIs(table.give(None), None)
                for number in range(size):
                    self.refused(InvalidNumber, number, table.give, number)
                self.assertEqual(state(table), before)

    def test_a_refused_opening_is_no_entry(self):
        table, handles = filled(1)
        table.give()
        table.close(handles[0])
        self.assertEqual(table.give().entry, 1)


class TestBooks(unittest.TestCase):
    def give_all(self, table):
        return [table.give().number for _ in range(table.size - len(table))]

    def after(self, book, size, closed):
        """The numbers in the order in which a table gives them again, after it gave all and some were closed."""
        table, handles = filled(size, book=book)
        for number in closed:
            self.assertEqual(table.close(handles[number]), "done")
        return self.give_all(table)

    def test_least(self):
        for closed in [[0, 1, 2], [2, 1, 0], [1, 2, 0], [2, 0]]:
            self.assertEqual(self.after("least", 4, closed), sorted(closed))

    def test_last(self):
        for closed in [[0, 1, 2], [2, 1, 0], [1, 2, 0], [2, 0], [3, 0, 2, 1]]:
            self.assertEqual(self.after("last", 4, closed), closed[::-1])

    def test_next_begins_behind_the_last_one(self):
        for closed in [[0, 1, 2], [2, 1, 0], [1, 2, 0], [2, 0]]:
            self.assertEqual(self.after("next", 4, closed), sorted(closed))

    def test_next_goes_round(self):
        table = Table(3, book="next")
        handles = [table.give(), table.give()]
        table.close(handles[0])
        self.assertEqual(table.free(), (2,))
        self.assertEqual(self.give_all(table), [2, 0])
        table, handles = filled(3, book="next")
        table.close(handles[0])
        table.close(handles[1])
        first = table.give()
        table.close(first)
        self.assertEqual((first.number, table.free()), (0, (1,)))
        table.close(handles[2])
        self.assertEqual(self.give_all(table), [1, 2, 0])

    def test_next_takes_the_same_number_if_there_is_no_other(self):
        table = Table(1, book="next")
        for _ in range(3):
            self.assertEqual(table.close(table.give()), "done")
        table, handles = filled(3, book="next")
        table.close(handles[2])
        self.assertEqual(table.free(), (2,))
        table.close(table.give())
        self.assertEqual(table.free(), (2,))

    def test_next_does_not_care_for_refused_openings_and_renewing(self):
        table, handles = filled(3, book="next")
        self.assertIs(table.give(), None)
        table.close(handles[1])
        self.assertEqual(table.give().number, 1)
        table.renew(handles[0])
        table.close(handles[2])
        self.assertEqual(table.free(), (2,))

    def test_last_gives_numbers_that_were_never_given_behind_all_others(self):
        table = Table(5, book="last")
        handles = [table.give() for _ in range(3)]
        table.close(handles[2])
        table.close(handles[0])
        self.assertEqual(table.free(), (0,))
        self.assertEqual(self.give_all(table), [0, 2, 3, 4])

    def test_last_forgets_when_a_number_became_free_before(self):
        table, handles = filled(3, book="last")
        table.close(handles[1])
        again = table.give()
        table.close(handles[0])
        table.close(again)
        table.close(handles[2])
        self.assertEqual(self.give_all(table), [2, 1, 0])

    def test_any_tells_all_free_ones(self):
        table, handles = filled(4, book="any")
        for number, free in [(2, (2,)), (0, (0, 2)), (3, (0, 2, 3)), (1, (0, 1, 2, 3))]:
            table.close(handles[number])
            self.assertEqual(table.free(), free)
        self.assertIs(type(table.free()), tuple)


class TestGiving(Case):
    def test_any_gives_the_number_that_is_told(self):
        table = Table(4, book="any", turns=2)
        for entry, number in enumerate([2, 0, 3, 1]):
            handle = table.give(number)
            self.assertEqual((handle.number, handle.turn, handle.entry), (number, 0, entry))
        self.assertEqual([table[number] for number in range(4)], [1, 3, 0, 2])

    def test_any_gives_the_least_one_if_none_is_told(self):
        table, handles = filled(4, book="any")
        table.close(handles[3])
        table.close(handles[1])
        self.assertEqual([table.give(None).number, table.give().number], [1, 3])

    def test_the_number_by_name(self):
        self.assertEqual(Table(3, book="any").give(number=2).number, 2)

    def test_the_one_of_free_may_be_told_under_each_book(self):
        for book in ["least", "next", "last"]:
            table = Table(2, book=book)
            self.assertEqual([table.give(0).number, table.give(1).number], [0, 1])

    def test_numbers_that_are_not_in_free(self):
        for book, numbers in [("any", [1, 4, 10 ** 30]), ("least", [1, 2, 3, 4]), ("next", [0, 1, 3, 4]),
                              ("last", [0, 1, 2, 4])]:
            table, handles = filled(4, book=book)
            for number in [2, 0, 3]:
                table.close(handles[number])
            if book == "next":
                table.give()
            before = state(table)
            for number in numbers:
                self.assertNotIn(number, table.free())
                self.refused(InvalidNumber, number, table.give, number)
                self.assertEqual(state(table), before)

    def test_other_objects(self):
        for book in BOOKS:
            table = Table(2, book=book)
            before = state(table)
            for number in [True, False, -1, "0", (0,), [0], b"0"] + [value for value in others() if value is not None]:
                self.refused(InvalidNumber, number, table.give, number)
            self.assertEqual(state(table), before)

    def test_true_is_not_1_even_where_1_is_free(self):
        table = Table(2, book="any")
        self.refused(InvalidNumber, True, table.give, True)
        self.refused(InvalidNumber, False, table.give, False)
        self.assertEqual(table.give(1).number, 1)


class TestDeeds(unittest.TestCase):
    def each(self, word, handle, make):
        """Each deed with the handle has this word, which is not done, and changes nothing of a table that is made."""
        for deed in ["close", "renew", "use"]:
            table = make()
            before = state(table)
            self.assertEqual(getattr(table, deed)(handle), word, deed)
            self.assertEqual(state(table), before)
            self.assertEqual(table.copied().give() is None, table.give() is None)

    def test_the_handle_of_now(self):
        for book in BOOKS:
            table, handles = filled(3, book=book)
            self.assertEqual(table.use(handles[1]), "done")
            self.assertEqual(state(table), state(filled(3, book=book)[0]))
            self.assertEqual(table.close(handles[1]), "done")
            self.assertEqual((table[0], table[1], table[2], len(table)), (0, None, 2, 2))

    def test_by_name(self):
        table, handles = filled(1)
        self.assertEqual(table.use(handle=handles[0]), "done")
        again = table.renew(handle=handles[0])
        self.assertEqual(table.close(handle=again), "done")

    def test_none(self):
        self.each("refused", None, lambda: Table(2))
        self.each("refused", None, lambda: filled(2)[0])

    def test_numbers_that_the_table_does_not_have(self):
        for number in [2, 3, 60, 10 ** 30]:
            self.each("refused", Handle(number), lambda: Table(2))
            self.each("refused", Handle(number), lambda: filled(2)[0])

    def test_numbers_that_are_free(self):
        self.each("refused", Handle(1), lambda: Table(2))

        def closed():
            table, handles = filled(2)
            table.close(handles[1])
            return table
        self.each("refused", Handle(1, 0, entry=1), closed)
        self.each("refused", Handle(1, 0, entry=0), closed)

    def test_an_elder_entry_with_the_same_turn(self):
        for turns in TURNS:
            def renewed():
                table, handles = filled(2, turns=turns)
                handle = handles[0]
                for _ in range(turns):
                    handle = table.renew(handle)
                return table
            self.each("fault", Handle(0, 0, entry=0), renewed)

    def test_an_elder_entry_with_another_turn(self):
        for turns in [2, 3, 4]:
            def renewed():
                table, handles = filled(2, turns=turns)
                table.renew(handles[0])
                return table
            self.each("refused", Handle(0, 0, entry=0), renewed)

    def test_another_turn_is_refused_even_with_the_entry(self):
        for turn in [1, 2, 4, 10 ** 30]:
            self.each("refused", Handle(0, turn, entry=0), lambda: filled(2, turns=2)[0])

    def test_a_later_entry_than_that_of_now(self):
        self.each("fault", Handle(0, 0, entry=7), lambda: filled(2)[0])

    def test_a_handle_that_is_made_is_as_good_as_one_that_was_given(self):
        table, _ = filled(2)
        self.assertEqual(table.use(Handle(1, 0, entry=1)), "done")
        self.assertEqual(table.renew(Handle(1, 0, entry=1)).entry, 2)
        self.assertEqual(table.close(Handle(1, 0, entry=2)), "done")

    def test_a_second_closing_is_refused(self):
        table, handles = filled(2)
        self.assertEqual([table.close(handles[0]), table.close(handles[0])], ["done", "refused"])

    def test_closing_a_number_that_is_given_again_is_a_fault(self):
        table, handles = filled(2)
        table.close(handles[0])
        table.give()
        before = state(table)
        self.assertEqual([table.close(handles[0]), table.renew(handles[0]), table.use(handles[0])], ["fault"] * 3)
        self.assertEqual(state(table), before)


class TestTurns(unittest.TestCase):
    def test_renewing_returns_the_handle_of_a_new_entry_with_the_turn_behind(self):
        for turns in TURNS:
            table, handles = filled(3, turns=turns)
            handle = handles[1]
            for count in range(1, 10):
                again = table.renew(handle)
                self.assertIsInstance(again, Handle)
                self.assertEqual((again.number, again.turn, again.entry), (1, count % turns, 2 + count))
                self.assertEqual((table[0], table[1], table[2], len(table)), (0, 2 + count, 2, 3))
                self.assertEqual(table.use(handle), "fault" if turns == 1 else "refused")
                self.assertEqual(table.use(again), "done")
                handle = again

    def test_opening_again_goes_on_with_the_turns(self):
        for turns in TURNS:
            for book in BOOKS:
                table = Table(1, book=book, turns=turns)
                for entry in range(9):
                    handle = table.give()
                    self.assertEqual((handle.number, handle.turn, handle.entry), (0, entry % turns, entry))
                    table.close(handle)

    def test_renewing_and_opening_count_together_and_each_number_alone(self):
        table = Table(2, turns=3)
        one, other = table.give(), table.give()
        one = table.renew(one)
        table.close(one)
        one = table.give()
        other = table.renew(other)
        self.assertEqual([(one.text, one.entry), (other.text, other.entry)], [("0.2", 3), ("1.1", 4)])


class TestReading(Case):
    def test_entries(self):
        table = Table(3, book="any")
        self.assertEqual([table[0], table[1], table[2]], [None, None, None])
        table.give(1)
        table.give(0)
        self.assertEqual([table[0], table[1], table[2]], [1, 0, None])

    def test_wrong_numbers(self):
        for table in [Table(3), filled(3)[0]]:
            for at in [3, 4, -1, -3, 10 ** 30, True, False, "0", (0,), [0], slice(0, 1), Handle(0)] + others():
                self.refused(InvalidNumber, at, table.__getitem__, at)

    def test_wrong_numbers_by_the_sign(self):
        with self.assertRaises(InvalidNumber):
            Table(3)[-1]
        with self.assertRaises(InvalidNumber):
            Table(3)[True]

    def test_not_iterated(self):
        for table in [Table(3), filled(3)[0]]:
            with self.assertRaises(TypeError):
                iter(table)
            with self.assertRaises(TypeError):
                list(table)

    def test_length(self):
        table, handles = filled(4)
        self.assertEqual((len(Table(4)), len(table)), (0, 4))
        for many, handle in enumerate(handles):
            table.close(handle)
            self.assertEqual(len(table), 3 - many)

    def test_handles_of_now_are_in_the_table(self):
        table, handles = filled(3, turns=2)
        for handle in handles:
            self.assertIs(handle in table, True)
        again = table.renew(handles[1])
        table.close(handles[2])
        self.assertEqual([handle in table for handle in [*handles, again]], [True, False, False, True])
        self.assertIs(Handle(0, 0, entry=0) in table, True)
        self.assertIs(Handle(0, 0, entry=1) in table, False)

    def test_only_the_entry_of_the_number_counts(self):
        table, _ = filled(2, turns=2)
        self.assertIs(Handle(1, 1, entry=1) in table, True)
        self.assertIs(Handle(0, 0, entry=1) in table, False)

    def test_handles_of_numbers_that_are_free_or_not_there(self):
        table = Table(2)
        for handle in [Handle(0), Handle(1), Handle(2), Handle(10 ** 30)]:
            self.assertIs(handle in table, False)

    def test_other_objects_are_not_in_the_table(self):
        for table in [Table(2), filled(2)[0]]:
            for value in others() + [0, 1, "0.0", (0, 0, 0), table, Handle, Stubborn()]:
                self.assertIs(value in table, False)


class TestCopies(unittest.TestCase):
    def test_a_copy_is_in_the_same_state(self):
        for book in BOOKS:
            for turns in TURNS:
                table, handles = filled(4, book=book, turns=turns)
                table.close(handles[2])
                table.close(handles[1])
                table.renew(handles[0])
                copy = table.copied()
                self.assertIsNot(copy, table)
                self.assertIs(type(copy), Table)
                self.assertEqual(state(copy), state(table))
                for _ in range(2):
                    one, other = table.give(), copy.give()
                    self.assertEqual((one.text, one.entry), (other.text, other.entry))

    def test_both_go_their_own_ways(self):
        for book in BOOKS:
            table, handles = filled(3, book=book, turns=2)
            table.close(handles[1])
            copy, before = table.copied(), state(table)
            copy.close(handles[0])
            copy.renew(handles[2])
            copy.give()
            self.assertEqual(state(table), before)
            changed = state(copy)
            table.give()
            table.close(handles[0])
            table.close(handles[2])
            self.assertEqual(state(copy), changed)

    def test_a_copy_of_a_copy(self):
        table = Table(2)
        copy = table.copied().copied()
        copy.give()
        self.assertEqual((len(table), len(copy)), (0, 1))


if __name__ == "__main__":
    unittest.main()
