"""Systems compared: the books and turns of tables, and what benches let happen."""

from handlesagain.benches import Bench
from handlesagain.checks import is_step
from handlesagain.crowds import Crowd
from handlesagain.searches import faulty_rows, is_safe, shortest_fault
from handlesagain.tables import BOOKS, MOST_TURNS
from handlesagain.verdicts import is_right


def compared(program, *hands, size=4, turns=1):
    """Return the dict of the length of a shortest run to a fault under each book, None if there is none."""
    benches = [Bench(program, *hands, size=size, book=book, turns=turns) for book in BOOKS]
    return {book: _least_length(bench) for book, bench in zip(BOOKS, benches)}


def _least_length(bench):
    """The length of a shortest run to a fault, None if there is none."""
    run = shortest_fault(bench)
    return None if run is None else len(run)


def hides(program, *hands, size=4, turns=1):
    """Return the tuple of the books under which a bench has no fault although the crowd is wrong."""
    lengths = compared(program, *hands, size=size, turns=turns)
    if is_right(Crowd(program, turns=turns)):
        return ()
    return tuple([book for book in BOOKS if lengths[book] is None])


def turns_needed(bench):
    """Return the least number of turns with which a bench has no fault, None if there is none."""
    program = bench.program
    hands = bench.hands
    size = bench.size
    book = bench.book
    for turns in range(1, MOST_TURNS + 1):
        if is_safe(Bench(program, *hands, size=size, book=book, turns=turns)):
            return turns
    return None


class Harm:
    """What a bench lets happen: the rows at which some run has its fault."""

    def __init__(self, bench):
        self._bench = bench
        self._rows = faulty_rows(bench)
        self._length = _least_length(bench)

    @property
    def bench(self):
        """The bench."""
        return self._bench

    @property
    def rows(self):
        """The ascending tuple of the tuples (sort, row) of the rows."""
        return self._rows

    @property
    def length(self):
        """The length of a shortest run to a fault, None if there is none."""
        return self._length

    def __lt__(self, other):
        if not isinstance(other, Harm):
            return NotImplemented
        return len(self._rows) < len(other._rows)

    def __le__(self, other):
        if not isinstance(other, Harm):
            return NotImplemented
        return len(self._rows) <= len(other._rows)

    def __gt__(self, other):
        if not isinstance(other, Harm):
            return NotImplemented
        return len(self._rows) > len(other._rows)

    def __ge__(self, other):
        if not isinstance(other, Harm):
            return NotImplemented
        return len(self._rows) >= len(other._rows)

    def __eq__(self, other):
        return isinstance(other, Harm) and self._rows == other._rows

    def __contains__(self, x):
        # Python takes True for 1, also inside tuples. A row is a tuple of two counts, like a step.
        return is_step(x) and x in self._rows

    def __len__(self):
        return len(self._rows)

    def __bool__(self):
        return bool(self._rows)
