"""Tables: the numbers that lead to things, and how free ones are given."""

from handlesagain.checks import is_between, is_count, is_index
from handlesagain.errors import InvalidBook, InvalidNumber
from handlesagain.handles import Handle

BOOKS = ("least", "any", "next", "last")

MOST_NUMBERS = 60
MOST_TURNS = 4


class Table:
    """Numbers that lead to things or are free."""

    def __init__(self, size, *, book="least", turns=1):
        if not is_between(size, 1, MOST_NUMBERS):
            raise InvalidNumber(size)
        # An object of another kind might not bear a comparison.
        if not isinstance(book, str) or book not in BOOKS:
            raise InvalidBook(book)
        if not is_between(turns, 1, MOST_TURNS):
            raise InvalidNumber(turns)
        self._size = size
        self._book = book
        self._turns = turns
        # The entry of each number, None where it is free, and how many entries each has had.
        self._entries = [None] * size
        self._counts = [0] * size
        self._many_entries = 0
        # Where the book next begins to search.
        self._start = 0
        # For the book last, the free numbers that were given, in the order in which they became free.
        self._freed = []

    @property
    def size(self):
        """How many numbers there are."""
        return self._size

    @property
    def book(self):
        """The book that tells which free number an opening gets."""
        return self._book

    @property
    def turns(self):
        """The number of turns."""
        return self._turns

    def free(self):
        """Return the tuple of the numbers that the next opening can get, ascending."""
        numbers = [number for number, entry in enumerate(self._entries) if entry is None]
        if self._book == "any" or not numbers:
            return tuple(numbers)
        return (self._told(numbers),)

    def _told(self, numbers):
        """The one of the free numbers, which are ascending, that a book other than any tells."""
        if self._book == "next":
            behind = [number for number in numbers if number >= self._start]
            return behind[0] if behind else numbers[0]
        if self._book == "last" and self._freed:
            return self._freed[-1]
        return numbers[0]

    def give(self, number=None):
        """Open a thing; return its handle, or None if no number is free."""
        numbers = self.free()
        if number is None and not numbers:
            return None
        if number is None:
            return self._given(numbers[0])
        if not is_count(number) or number not in numbers:
            raise InvalidNumber(number)
        return self._given(number)

    def _given(self, number):
        """The handle of a thing that is opened under a free number."""
        self._start = number + 1
        self._freed = [other for other in self._freed if other != number]
        return self._renewed(number)

    def _renewed(self, number):
        """The handle of a new thing to which the number leads from now on."""
        entry = self._many_entries
        self._many_entries += 1
        self._entries[number] = entry
        self._counts[number] += 1
        return Handle(number, self._turn_of(number), entry=entry)

    def _turn_of(self, number):
        """The turn of a number that has had an entry."""
        return (self._counts[number] - 1) % self._turns

    def close(self, handle):
        """End the thing of a handle; return the word of this deed."""
        word = self.use(handle)
        if word == "done":
            self._entries[handle.number] = None
            self._freed.append(handle.number)
        return word

    def renew(self, handle):
        """Let the number of a handle lead to a new thing; return its handle, or the word if this is not done."""
        word = self.use(handle)
        return self._renewed(handle.number) if word == "done" else word

    def use(self, handle):
        """Use the thing of a handle; return the word of this deed."""
        if handle is None or handle.number >= self._size:
            return "refused"
        entry = self._entries[handle.number]
        if entry is None or self._turn_of(handle.number) != handle.turn:
            return "refused"
        return "done" if entry == handle.entry else "fault"

    def __getitem__(self, at):
        if not is_index(at, self._size):
            raise InvalidNumber(at)
        return self._entries[at]

    def __iter__(self):
        raise TypeError("a table is not iterated over")

    def __len__(self):
        return len([entry for entry in self._entries if entry is not None])

    def __contains__(self, x):
        return isinstance(x, Handle) and x.number < self._size and self._entries[x.number] == x.entry

    def copied(self):
        """Return a table of its own in the same state."""
        table = Table(self._size, book=self._book, turns=self._turns)
        table._entries = list(self._entries)
        table._counts = list(self._counts)
        table._many_entries = self._many_entries
        table._start = self._start
        table._freed = list(self._freed)
        return table
