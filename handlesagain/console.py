"""A console: commands as lines."""

from handlesagain.benches import Bench
from handlesagain.crowds import Crowd
from handlesagain.errors import InvalidCommand
from handlesagain.searches import shortest_fault
from handlesagain.sessions import Session
from handlesagain.texts import read, write
from handlesagain.verdicts import is_right, least_turns, shortest_length

DIGITS = "0123456789"
MOST_DIGITS = 30

# What stands for a line feed in the texts of programs.
BREAK = "; "

NONE = "-"


def _is_number(word):
    """Whether a word is a count of at most 30 digits without leading zeros."""
    if not 1 <= len(word) <= MOST_DIGITS or not all([sign in DIGITS for sign in word]):
        return False
    return word == "0" or not word.startswith("0")


def _are_numbers(words, many):
    """Whether words are so many counts."""
    return len(words) == many and all([_is_number(word) for word in words])


def _spaced(words):
    """The words with spaces between them, or what stands for none."""
    return " ".join(words) if words else NONE


def _told(value):
    """An integer or None as a word."""
    return NONE if value is None else str(value)


class Console:
    """A console, with a program and a session of a bench, once there are such."""

    def __init__(self):
        self._program = None
        self._session = None

    def run(self, line):
        """Execute a command; return its answer."""
        if not isinstance(line, str) or "\n" in line:
            raise InvalidCommand(line)
        word, space, rest = line.partition(" ")
        if word == "load" and space:
            return self._load(rest)
        answer = self._answer(word, line.split(" ")[1:])
        if answer is None:
            raise InvalidCommand(line)
        return answer

    def _load(self, text):
        """The answer to the loading of a program."""
        self._program = read(text.replace(BREAK, "\n"))
        self._session = None
        return "ok"

    def _answer(self, word, words):
        """The answer to a word and the words behind it, None if they are no command."""
        if self._program is None:
            return None
        if word == "show" and not words:
            return write(self._program).replace("\n", BREAK)
        if word == "turns" and not words:
            return _told(least_turns(self._program))
        if word == "right" and _are_numbers(words, 1):
            return "yes" if is_right(self._crowd_with(words[0])) else "no"
        if word == "length" and _are_numbers(words, 1):
            return _told(shortest_length(self._crowd_with(words[0])))
        if word == "bench" and len(words) > 3 and _are_numbers([words[0], words[2]], 2):
            return self._begin(words)
        return None if self._session is None else self._answer_on_bench(word, words)

    def _crowd_with(self, word):
        """The crowd of the program with the turns that a word tells."""
        return Crowd(self._program, turns=int(word))

    def _begin(self, words):
        """The answer to the making of a bench."""
        size, book, turns, *hands = words
        size = int(size)
        turns = int(turns)
        program = self._program
        self._session = Session(Bench(program, *hands, size=size, book=book, turns=turns))
        return "ok"

    def _answer_on_bench(self, word, words):
        """The answer to a command that needs a bench, None if it is no such command."""
        if word == "step" and _are_numbers(words, 2):
            return self._session.step(int(words[0]), int(words[1]))
        if word == "undo" and not words:
            self._session.undo()
            return "ok"
        if word == "words" and not words:
            return _spaced(self._session.words)
        if word == "fault" and not words:
            run = shortest_fault(self._session.bench)
            return _spaced([f"{hand}.{choice}" for hand, choice in run or ()])
        return None
