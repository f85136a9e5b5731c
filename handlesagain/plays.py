"""Plays: benches that are played step by step."""

from handlesagain.checks import is_count, is_index, is_listing, is_name
from handlesagain.errors import InvalidName, InvalidNumber, InvalidStep
from handlesagain.handles import Handle
from handlesagain.programs import DEEDS
from handlesagain.tables import Table


class Play:
    """A bench that is played."""

    def __init__(self, bench):
        program = bench.program
        self._bench = bench
        # The last step and its word, with what is so ahead of it; None at the beginning. Copies share all of it.
        self._last = None
        self._fault = None
        self._sorts = [program[name] for name in bench.hands]
        self._rows = [0] * len(self._sorts)
        # The handle in each variable, None where it has nothing.
        self._common = {name: None for name in program.common}
        self._own = [{name: None for name in sort.own} for sort in self._sorts]
        # The hand that took each lock, None where it is free.
        self._takers = {name: None for name in program.locks}
        self._table = Table(bench.size, book=bench.book, turns=bench.turns)

    @property
    def bench(self):
        """The bench."""
        return self._bench

    @property
    def made(self):
        """The tuple of the steps so far."""
        return tuple([step for step, _ in self._history()])

    @property
    def words(self):
        """The tuple of the words of the steps so far."""
        return tuple([word for _, word in self._history()])

    def _history(self):
        """The list of the tuples of a step so far and its word."""
        found = []
        link = self._last
        while link is not None:
            step, word, link = link
            found.append((step, word))
        return found[::-1]

    @property
    def fault(self):
        """The tuple of the entry that was meant and the one that was hit, None where there is no fault."""
        return self._fault

    def step(self, hand, choice=0):
        """Make a step; return its word."""
        if not self.can_step(hand, choice):
            raise InvalidStep((hand, choice))
        row = self._row_ahead(hand)
        word = self._does(hand, row, choice)
        if row[0] == "go":
            self._rows[hand] = row[1 + choice]
        elif word != "fault":
            self._rows[hand] += 1
        self._last = ((hand, choice), word, self._last)
        return word

    def can_step(self, hand, choice):
        """Whether any two objects make a step that can be made."""
        return is_index(hand, len(self._rows)) and is_count(choice) and choice in self._choices(hand)

    def steps(self):
        """Yield all steps that can be made, ascending."""
        # All are found ahead of the first one, so that a step made meanwhile does not mix two states.
        found = [(hand, choice) for hand in range(len(self._rows)) for choice in self._choices(hand)]
        yield from found

    def row_of(self, hand):
        """Return the number of the row that a hand does next."""
        if not is_index(hand, len(self._rows)):
            raise InvalidNumber(hand)
        return self._rows[hand]

    def _row_ahead(self, hand):
        """The row that a hand does next, None if it has ended."""
        rows = self._sorts[hand].rows
        at = self._rows[hand]
        return rows[at] if at < len(rows) else None

    def _choices(self, hand):
        """The tuple of the choices with which a hand can step, ascending."""
        row = self._row_ahead(hand)
        if self._fault is not None or row is None:
            return ()
        if row[0] == "lock" and self._takers[row[1]] is not None:
            return ()
        if row[0] == "go":
            return tuple(range(len(row) - 1))
        if row[0] == "open" and self._table.book == "any":
            return self._table.free() or (0,)
        return (0,)

    def _does(self, hand, row, choice):
        """The word of a row that a hand does; the row is done but for the number of the next one."""
        word = row[0]
        if word == "open":
            return self._opens(hand, row[1], choice)
        if word in DEEDS:
            return self._deals(hand, word, row[1])
        if word == "set":
            self._put(hand, row[1], self._handle_in(hand, row[2]))
        elif word == "drop":
            self._put(hand, row[1], None)
        elif word == "lock":
            self._takers[row[1]] = hand
        elif word == "unlock" and self._takers[row[1]] == hand:
            self._takers[row[1]] = None
        return "done"

    def _opens(self, hand, name, choice):
        """The word of an opening that a hand does."""
        # Only the book any lets a hand choose, and only among free numbers.
        chosen = self._table.book == "any" and len(self._table.free()) > 0
        handle = self._table.give(choice if chosen else None)
        self._put(hand, name, handle)
        return "refused" if handle is None else "done"

    def _deals(self, hand, word, name):
        """The word of a deed that a hand does."""
        handle = self._handle_in(hand, name)
        if word == "close":
            told = self._table.close(handle)
        elif word == "use":
            told = self._table.use(handle)
        else:
            told = self._table.renew(handle)
        if isinstance(told, Handle):
            self._put(hand, name, told)
            return "done"
        if told == "fault":
            self._fault = (handle.entry, self._table[handle.number])
        return told

    def _handle_in(self, hand, name):
        """The handle in a variable that a hand names, None if it has nothing."""
        return self._own[hand][name] if name in self._own[hand] else self._common[name]

    def _put(self, hand, name, handle):
        """Let a variable that a hand names have a handle, or nothing."""
        if name in self._own[hand]:
            self._own[hand][name] = handle
        else:
            self._common[name] = handle

    def __getitem__(self, at):
        if not is_name(at) or at not in self._common:
            raise InvalidName(at)
        return self._common[at]

    def __iter__(self):
        raise TypeError("a play is not iterated over")

    def own_of(self, hand, name):
        """Return the handle in an own variable of a hand, None if it has nothing."""
        if not is_index(hand, len(self._rows)):
            raise InvalidNumber(hand)
        if not is_name(name) or name not in self._own[hand]:
            raise InvalidName(name)
        return self._own[hand][name]

    def is_taken(self, lock):
        """Whether a lock is taken."""
        if not is_name(lock) or lock not in self._takers:
            raise InvalidName(lock)
        return self._takers[lock] is not None

    def table(self):
        """Return a copy of the table."""
        return self._table.copied()

    def copied(self):
        """Return a play of its own in the same state."""
        play = Play(self._bench)
        play._last = self._last
        play._fault = self._fault
        play._rows = list(self._rows)
        play._common = dict(self._common)
        play._own = [dict(variables) for variables in self._own]
        play._takers = dict(self._takers)
        play._table = self._table.copied()
        return play


def make_all(play, run):
    """Let a play make all steps of a run; return the tuple of their words."""
    if not is_listing(run):
        raise InvalidStep(run)
    words = []
    for step in run:
        if not isinstance(step, tuple) or len(step) != 2 or not play.can_step(step[0], step[1]):
            raise InvalidStep(step)
        words.append(play.step(step[0], step[1]))
    return tuple(words)
