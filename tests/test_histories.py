"""The class Table of handlesagain/tables.py through histories, against a plain table."""

import random
import unittest

from helpers import PlainTable

from handlesagain.handles import Handle
from handlesagain.tables import BOOKS, Table


class TestHistories(unittest.TestCase):
    def alike(self, table, plain, given):
        """Both tables tell the same, also of each handle that was given."""
        self.assertEqual(table.free(), plain.free())
        entries = [plain.entry(number) for number in range(plain.size)]
        self.assertEqual([table[number] for number in range(plain.size)], entries)
        self.assertEqual(len(table), plain.size - entries.count(None))
        for told in given:
            handle = Handle(told[0], told[1], entry=told[2])
            self.assertEqual(table.use(handle), plain.word(told))
            self.assertIs(handle in table, told[2] in entries)

    def told(self, handle):
        return (handle.number, handle.turn, handle.entry)

    def go_on(self, table, plain, given, choose):
        """One thing more happens to both tables."""
        free = plain.free()
        word = choose(["open", "open", "close", "renew"])
        if word == "open":
            number = choose([None, *free])
            told = self.told(table.give(number)) if free else table.give(number)
            self.assertEqual(told, plain.enter("open", free[0] if number is None else number) if free else None)
            given.extend([told] if free else [])
        elif given:
            told = choose(given)
            before = plain.word(told)
            result = getattr(table, word)(Handle(told[0], told[1], entry=told[2]))
            if before == "done" and word == "renew":
                given.append(plain.enter("renew", told[0]))
                self.assertEqual(self.told(result), given[-1])
            else:
                self.assertEqual(result, before)
            if before == "done" and word == "close":
                plain.happened.append(("close", told[0]))

    def test_long_histories(self):
        for book in BOOKS:
            for size in range(1, 7):
                for turns in range(1, 5):
                    choose = random.Random(f"{book} {size} {turns}").choice
                    table, plain, given = Table(size, book=book, turns=turns), PlainTable(size, book, turns), []
                    self.alike(table, plain, given)
                    for _ in range(40):
                        self.go_on(table, plain, given, choose)
                        self.alike(table, plain, given)
                        self.alike(table.copied(), plain, given)

    def test_all_orders_of_openings_and_closings(self):
        for book in BOOKS:
            self.all_orders(Table(3, book=book, turns=2), PlainTable(3, book, 2), [], 6)

    def all_orders(self, table, plain, given, left):
        self.alike(table, plain, given)
        if left == 0:
            return
        for number in plain.free():
            one, other = table.copied(), self.plain_copy(plain)
            handle = one.give(number)
            self.assertEqual(self.told(handle), other.enter("open", number))
            self.all_orders(one, other, [*given, self.told(handle)], left - 1)
        for told in given:
            if plain.word(told) == "done":
                one, other = table.copied(), self.plain_copy(plain)
                self.assertEqual(one.close(Handle(told[0], told[1], entry=told[2])), "done")
                other.happened.append(("close", told[0]))
                self.all_orders(one, other, given, left - 1)

    def plain_copy(self, plain):
        copy = PlainTable(plain.size, plain.book, plain.turns)
        copy.happened.extend(plain.happened)
        return copy


if __name__ == "__main__":
    unittest.main()
