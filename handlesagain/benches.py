"""Benches: programs with hands and a table."""

from handlesagain.errors import InvalidHands, InvalidProgram
from handlesagain.plays import Play, make_all
from handlesagain.programs import Program
from handlesagain.tables import Table

MOST_HANDS = 30


class Bench:
    """A program, some hands, each one of a sort, and an empty table."""

    def __init__(self, program, *hands, size=4, book="any", turns=1):
        if not isinstance(program, Program):
            raise InvalidProgram(program)
        if not 1 <= len(hands) <= MOST_HANDS or not all([name in program for name in hands]):
            raise InvalidHands(hands)
        # The errors of the table are those of the bench.
        table = Table(size, book=book, turns=turns)
        self._program = program
        self._hands = hands
        self._size = table.size
        self._book = table.book
        self._turns = table.turns

    @property
    def program(self):
        """The program."""
        return self._program

    @property
    def hands(self):
        """The tuple of the names of the sorts of the hands."""
        return self._hands

    @property
    def size(self):
        """How many numbers the table has."""
        return self._size

    @property
    def book(self):
        """The book of the table."""
        return self._book

    @property
    def turns(self):
        """The number of turns of the table."""
        return self._turns

    def __eq__(self, other):
        return (isinstance(other, Bench) and self._program == other._program and self._hands == other._hands
                and self._size == other._size and self._book == other._book and self._turns == other._turns)

    def __call__(self, run):
        """Play a run from the beginning; return the tuple of the words of its steps."""
        return make_all(Play(self), run)
