"""Handles: what a hand has of a thing that it opened."""

from handlesagain.checks import is_count
from handlesagain.errors import InvalidNumber


class Handle:
    """A number, its turn, and the entry for which it was given."""

    def __init__(self, number, turn=0, *, entry=0):
        for value in (number, turn, entry):
            if not is_count(value):
                raise InvalidNumber(value)
        self._number = number
        self._turn = turn
        self._entry = entry

    @property
    def number(self):
        """The number in the table."""
        return self._number

    @property
    def turn(self):
        """The turn that the number had when the handle was given."""
        return self._turn

    @property
    def entry(self):
        """The entry that is meant."""
        return self._entry

    @property
    def text(self):
        """The number and the turn, with a dot between them."""
        return f"{self._number}.{self._turn}"

    def __eq__(self, other):
        # A hand cannot see the entry of a handle, so it does not count.
        return isinstance(other, Handle) and self._number == other._number and self._turn == other._turn
