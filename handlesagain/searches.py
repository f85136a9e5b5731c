"""Searches through all weavings of the hands of a bench."""

from handlesagain.checks import is_between
from handlesagain.errors import InvalidNumber, TooMany
from handlesagain.programs import DEEDS, placed, places_of, replaced

MOST_STATES = 50000
LONGEST_RUN = 12


class Weaving:
    """The states of a bench, where those that are alike are one.

    A state is a tuple: the rows of the hands, the handles in all variables, the hands that took the locks, the turn
    that each number gets with its next entry, the free numbers, and where the book next begins to search. A handle
    in a state is a tuple: its number, its turn, and whether the number has its entry. A number never gets an entry
    back, so this is all that counts of an entry.
    """

    def __init__(self, bench):
        program = bench.program
        self._book = bench.book
        self._turns = bench.turns
        self._many_numbers = bench.size
        self._many_locks = len(program.locks)
        # The rows of each hand, with places of variables and locks; own variables are behind those of the hands ahead.
        self._rows = []
        self._many_variables = len(program.common)
        for name in bench.hands:
            sort = program[name]
            self._rows.append(placed(sort.rows, places_of(program, sort, self._many_variables)))
            self._many_variables += len(sort.own)

    def first(self):
        """The state at the beginning."""
        return ((0,) * len(self._rows), (None,) * self._many_variables, (None,) * self._many_locks,
                (0,) * self._many_numbers, tuple(range(self._many_numbers)), 0)

    def is_over(self, state):
        """Whether all hands have ended in a state."""
        return all([at == len(rows) for at, rows in zip(state[0], self._rows)])

    def followers(self, state):
        """The list of all steps that can be made, ascending, each with the state behind it, None behind a fault."""
        found = []
        for hand, at in enumerate(state[0]):
            if at < len(self._rows[hand]):
                for choice, follower in self._choices(state, hand, self._rows[hand][at]):
                    found.append(((hand, choice), follower))
        return found

    def _choices(self, state, hand, row):
        """The list of the choices of a hand for its row, ascending, each with the state behind it."""
        rows, *others = state
        if row[0] == "go":
            return [(choice, (replaced(rows, hand, goal), *others)) for choice, goal in enumerate(row[1:])]
        moved = (replaced(rows, hand, rows[hand] + 1), *others)
        if row[0] == "open":
            return self._openings(moved, row[1])
        if row[0] in DEEDS:
            return [(0, self._with_deed(moved, row[0], row[1]))]
        if row[0] == "lock" and state[2][row[1]] is not None:
            return []
        return [(0, self._changed(moved, hand, row))]

    def _openings(self, state, variable):
        """The list of the choices for an opening, each with the state behind it, but for the row of the hand."""
        rows, handles, takers, coming, free, start = state
        if not free:
            return [(0, (rows, replaced(handles, variable, None), takers, coming, free, start))]
        if self._book == "any":
            return [(number, self._with_opening(state, variable, number)) for number in free]
        behind = [number for number in free if number >= start]
        return [(0, self._with_opening(state, variable, behind[0] if behind else free[0]))]

    def _with_opening(self, state, variable, number):
        """The state behind an opening that gets a number, but for the row of the hand."""
        rows, handles, takers, coming, free, start = state
        free = tuple([other for other in free if other != number])
        if self._book == "next":
            start = (number + 1) % self._many_numbers
        taken = (rows, handles, takers, coming, free, start)
        return self._with_entry(taken, variable, number)

    def _with_entry(self, state, variable, number):
        """The state with a new entry of a number, whose handle a variable gets."""
        rows, handles, takers, coming, free, start = state
        handles = replaced(handles, variable, (number, coming[number], True))
        coming = replaced(coming, number, (coming[number] + 1) % self._turns)
        return (rows, handles, takers, coming, free, start)

    def _with_deed(self, state, word, variable):
        """The state behind a deed, but for the row of the hand; None if it is a fault."""
        rows, handles, takers, coming, free, start = state
        handle = handles[variable]
        if handle is None:
            return state
        number, turn, leads = handle
        if not leads:
            hits = number not in free and (coming[number] - 1) % self._turns == turn
            return None if hits else state
        if word == "use":
            return state
        handles = tuple([(number, turn, False) if other == handle else other for other in handles])
        if word == "close":
            return (rows, handles, takers, coming, self._with_free(free, number), start)
        ended = (rows, handles, takers, coming, free, start)
        return self._with_entry(ended, variable, number)

    def _with_free(self, free, number):
        """The free numbers with one that becomes free, in the order in which the book gives them from the beginning."""
        if self._book == "last":
            return (number, *free)
        least = tuple([other for other in free if other < number])
        return (*least, number, *free[len(least):])

    def _changed(self, state, hand, row):
        """The state behind a row that is neither open nor a deed nor go, but for the row of the hand."""
        rows, handles, takers, coming, free, start = state
        if row[0] == "set":
            handles = replaced(handles, row[1], handles[row[2]])
        elif row[0] == "drop":
            handles = replaced(handles, row[1], None)
        elif row[0] == "lock":
            takers = replaced(takers, row[1], hand)
        elif row[0] == "unlock" and takers[row[1]] == hand:
            takers = replaced(takers, row[1], None)
        return (rows, handles, takers, coming, free, start)


class Walk:
    """A walk through the states of a bench, by the length of the first runs to them and then by these runs as lists."""

    def __init__(self, bench):
        self.weaving = Weaving(bench)
        first = self.weaving.first()
        self.states = [first]
        self._known = {first: True}
        # The place of the state ahead of each one, and the step between them.
        self._causes = [(0, None)]

    def meet(self, state, at, step):
        """Take a state in, unless it is known, that a step leads to from the one at a place."""
        if state in self._known:
            return
        if len(self.states) == MOST_STATES:
            raise TooMany(MOST_STATES)
        self._known[state] = True
        self.states.append(state)
        self._causes.append((at, step))

    def run_to(self, at):
        """The first run to the state at a place."""
        made = []
        while at > 0:
            at, step = self._causes[at]
            made.append(step)
        return tuple(made[::-1])


def shortest_fault(bench):
    """Return the first run, by length and then as a list, that ends with a fault; None if there is none."""
    walk = Walk(bench)
    at = 0
    while at < len(walk.states):
        for step, state in walk.weaving.followers(walk.states[at]):
            if state is None:
                return (*walk.run_to(at), step)
            walk.meet(state, at, step)
        at += 1
    return None


def is_safe(bench):
    """Whether no run of a bench has a fault."""
    return shortest_fault(bench) is None


def faulty_rows(bench):
    """Return the ascending tuple of the tuples (sort, row) at which some run has its fault."""
    walk = Walk(bench)
    found = {}
    at = 0
    while at < len(walk.states):
        for step, state in walk.weaving.followers(walk.states[at]):
            if state is None:
                hand = step[0]
                found[(bench.hands[hand], walk.states[at][0][hand])] = True
            else:
                walk.meet(state, at, step)
        at += 1
    sorts = bench.program.sorts
    return tuple([(index, row) for index, sort in enumerate(sorts) for row in range(len(sort))
                  if (sort.name, row) in found])


def shortest_stuck(bench):
    """Return the first run without a fault behind which no hand can step, though some has not ended; or None."""
    walk = Walk(bench)
    at = 0
    while at < len(walk.states):
        state = walk.states[at]
        followers = walk.weaving.followers(state)
        if not followers and not walk.weaving.is_over(state):
            return walk.run_to(at)
        for step, follower in followers:
            if follower is not None:
                walk.meet(follower, at, step)
        at += 1
    return None


def runs(bench, length):
    """Yield all runs of a length, in list order, that have no fault but perhaps at the last step."""
    if not is_between(length, 0, LONGEST_RUN):
        raise InvalidNumber(length)
    weaving = Weaving(bench)
    first = weaving.first()
    yield from _runs_from(weaving, first, (), length)


def _runs_from(weaving, state, made, length):
    """Yield the runs with so many further steps behind those that led to a state."""
    if length == 0:
        yield made
        return
    left = length - 1
    for step, follower in weaving.followers(state):
        run = (*made, step)
        if follower is not None:
            yield from _runs_from(weaving, follower, run, left)
        elif left == 0:
            yield run
