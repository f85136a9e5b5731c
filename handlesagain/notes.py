"""Notes: runs with names."""

from handlesagain.checks import is_listing, is_name, is_step
from handlesagain.errors import InvalidName, InvalidStep


class Notes:
    """Runs that are kept under names."""

    def __init__(self):
        self._noted = {}

    def __setitem__(self, at, worth):
        if not is_name(at):
            raise InvalidName(at)
        if not is_listing(worth) or not all([is_step(step) for step in worth]):
            raise InvalidStep(worth)
        self._noted[at] = tuple(worth)

    def __getitem__(self, at):
        if not is_name(at) or at not in self._noted:
            raise InvalidName(at)
        return self._noted[at]

    def __iter__(self):
        raise TypeError("notes are not iterated over")

    def __contains__(self, x):
        return is_name(x) and x in self._noted

    def __len__(self):
        return len(self._noted)

    def listed(self):
        """Return the sorted tuple of the tuples (name, run)."""
        return tuple([(name, self._noted[name]) for name in sorted([str(name) for name in self._noted])])
