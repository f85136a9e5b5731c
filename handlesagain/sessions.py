"""Sessions: plays that go on and back, and trials of several of them."""

from handlesagain.benches import Bench
from handlesagain.checks import is_index, is_listing, is_step
from handlesagain.errors import InvalidCommand, InvalidHands, InvalidStep, NothingToUndo
from handlesagain.plays import Play, make_all

COMMANDS = ("step", "go", "rebench", "undo")


class Session:
    """A play that goes on and back."""

    def __init__(self, bench):
        if not isinstance(bench, Bench):
            raise InvalidHands(bench)
        # A state is a tuple of a play, which does not change any more, and of the state to which undoing leads: None
        # if there is nothing to undo.
        self._state = (Play(bench), None)
        # The trials that may not have ended yet, as tuples of a block and the state at the beginning of the trial.
        self._trials = []

    def _current(self):
        """The state, with the trials whose blocks ended with an error taken back."""
        # What begins later is taken back first, so the first one of these trials tells.
        for block, state in self._trials:
            if block.has_failed:
                return state
        return self._state

    def _settle(self):
        """Take the trials back whose blocks ended with an error, and forget those that have ended."""
        self._state = self._current()
        self._trials = [(block, state) for block, state in self._trials if not block.has_ended]

    def _go_on_with(self, play):
        """Take another play, which can be undone."""
        self._settle()
        self._state = (play, self._state)

    def begin_trial(self, block):
        """Begin a trial that ends with a block."""
        self._settle()
        self._trials.append((block, self._state))

    @property
    def bench(self):
        """The bench."""
        return self._current()[0].bench

    @bench.setter
    def bench(self, value):
        self.rebench(value)

    @property
    def made(self):
        """The tuple of the steps so far."""
        return self._current()[0].made

    @property
    def words(self):
        """The tuple of the words of the steps so far."""
        return self._current()[0].words

    def played(self):
        """Return a copy of the play."""
        return self._current()[0].copied()

    def step(self, hand, choice=0):
        """Make a step; return its word."""
        play = self.played()
        word = play.step(hand, choice)
        self._go_on_with(play)
        return word

    def go(self, run):
        """Make all steps of a run, or none; return the tuple of their words."""
        play = self.played()
        words = make_all(play, run)
        self._go_on_with(play)
        return words

    def rebench(self, bench):
        """Begin anew with another bench."""
        if not isinstance(bench, Bench):
            raise InvalidHands(bench)
        self._go_on_with(Play(bench))

    def undo(self):
        """Undo the last change that is not undone."""
        _, before = self._current()
        if before is None:
            raise NothingToUndo()
        self._settle()
        self._state = before

    def attempt(self, deeds):
        """Perform deeds, all or none; return the tuple of what they return."""
        if not is_listing(deeds) or not all([_is_deed(deed) for deed in deeds]):
            raise InvalidCommand(deeds)
        self._settle()
        state = self._state
        try:
            told = tuple([self.perform(word, argument) for word, argument in deeds])
            state = self._state
        finally:
            self._state = state
        return told

    def perform(self, word, argument):
        """Perform a deed; return what it returns."""
        if word == "go":
            return self.go(argument)
        if word == "rebench":
            return self.rebench(argument)
        if word == "undo":
            return self.undo()
        if not is_step(argument):
            raise InvalidStep(argument)
        return self.step(argument[0], argument[1])


def _is_word(value):
    """Whether any value is the word of a deed."""
    return isinstance(value, str) and value in COMMANDS


def _is_deed(value):
    """Whether any value is a tuple of the word of a deed and an argument."""
    return isinstance(value, tuple) and len(value) == 2 and _is_word(value[0])


def _is_deed_among(value, many):
    """Whether any value is a tuple of the number of one of so many sessions, the word of a deed and an argument."""
    return isinstance(value, tuple) and len(value) == 3 and is_index(value[0], many) and _is_word(value[1])


class Block:
    """What has become of a block in which trials are gathered."""

    def __init__(self):
        self.has_ended = False
        # Whether it ended with an error.
        self.has_failed = False


class Trials:
    """Trials of sessions, which are taken back if their block ends with an error."""

    def __init__(self):
        self._block = Block()
        self._begun = []

    def __enter__(self):
        self._block = Block()
        self._begun = []
        return self

    def __exit__(self, kind, value, trace):
        # Little can be done here, so the sessions look at the block when they are asked for something.
        self._block.has_ended = True
        if kind is not None:
            self._block.has_failed = True

    def __len__(self):
        return len(self._begun)

    def enter(self, session):
        """Begin a trial of a session; return the session."""
        session.begin_trial(self._block)
        self._begun.append(session)
        return session


def together(sessions, deeds):
    """Perform deeds of several sessions, all or none; return the tuple of what they return."""
    if not is_listing(deeds) or not all([_is_deed_among(deed, len(sessions)) for deed in deeds]):
        raise InvalidCommand(deeds)
    with Trials() as trials:
        for session in sessions:
            trials.enter(session)
        told = [sessions[number].perform(word, argument) for number, word, argument in deeds]
    return tuple(told)
