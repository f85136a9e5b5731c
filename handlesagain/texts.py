"""Programs as texts."""

from handlesagain.errors import HandleError, InvalidText
from handlesagain.programs import Program, Sort

LONGEST_NUMBER = 2


def write(program):
    """Return the text of a program."""
    lines = _names_lines("common", program.common) + _names_lines("locks", program.locks)
    for sort in program.sorts:
        lines = lines + _sort_lines(sort)
    return "\n".join(lines)


def _names_lines(word, names):
    """The list of the line for names, or the empty list if there are none."""
    return [" ".join([word, *names])] if names else []


def _sort_lines(sort):
    """The list of the lines of a sort."""
    own = sort.own
    head = " ".join(["sort", sort.name, *own])
    return [head] + ["  " + " ".join([str(item) for item in row]) for row in sort.rows]


def read(text):
    """Return the program of a text."""
    if not isinstance(text, str):
        raise InvalidText(text)
    lines = text.split("\n")
    try:
        program = _program_of(lines)
    except HandleError:
        raise InvalidText(text) from None
    # The parts were picked out of the text loosely, so this is what rejects a sign too many or out of place.
    if write(program) != text:
        raise InvalidText(text)
    return program


def _program_of(lines):
    """The program that the lines tell, if they are those of a program."""
    starts = [at for at, line in enumerate(lines) if line.startswith("sort ")]
    ends = [*starts[1:], len(lines)]
    sorts = [_sort_of(lines[start:end]) for start, end in zip(starts, ends)]
    common = _names_of("common", lines)
    locks = _names_of("locks", lines)
    return Program(*sorts, common=common, locks=locks)


def _names_of(word, lines):
    """The list of the names in the first line that begins with the word."""
    found = [line.split(" ")[1:] for line in lines if line.startswith(word + " ")]
    return found[0] if found else []


def _sort_of(lines):
    """The sort of a line that begins with sort, and the lines of its rows."""
    words = lines[0].split(" ")
    rows = [_row_of(line) for line in lines[1:]]
    return Sort(words[1], rows, own=words[2:])


def _row_of(line):
    """The tuple of the words of a row, which need not be a row."""
    return tuple([_item_of(word) for word in line[2:].split(" ")])


def _item_of(word):
    """What a word of a row stands for: a number, or the word itself."""
    # No sort has a row with a longer number, and Python does not convert numbers of any length.
    if len(word) <= LONGEST_NUMBER and word.isdecimal():
        return int(word)
    return word
