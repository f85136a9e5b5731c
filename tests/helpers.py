"""What several tests need."""

import itertools
import random
import unittest

from handlesagain.benches import Bench
from handlesagain.programs import Program, Sort
from handlesagain.tables import BOOKS
from handlesagain.texts import read


class Stubborn:
    """An object that bears no comparison and cannot be hashed."""

    __hash__ = None

    def __eq__(self, other):
        raise RuntimeError("compared")


class Case(unittest.TestCase):
    def refused(self, kind, value, call, *args, **more):
        """The call raises just this kind of error, and the error keeps this very value."""
        error = self.error_of(kind, call, *args, **more)
        self.assertTrue(error.value is value, f"the error keeps {error.value!r}")

    def refused_like(self, kind, value, call, *args, **more):
        """The call raises just this kind of error, with an equal value of the same type."""
        error = self.error_of(kind, call, *args, **more)
        self.assertIs(type(error.value), type(value))
        self.assertEqual(error.value, value)

    def error_of(self, kind, call, *args, **more):
        with self.assertRaises(kind) as caught:
            call(*args, **more)
        self.assertIs(type(caught.exception), kind)
        return caught.exception


def others():
    """Objects of many kinds: none is a string, a number of a row, a tuple that is a row, a sort or a program."""
    return [None, True, False, -1, 10 ** 30, b"a", [], {}, set(), {"a": 1}, (), ((),), ([],), (None,), object(),
            Stubborn(), [Stubborn()], (Stubborn(),), len, ValueError]


class PlainTable:
    """A table by the words of the document: it keeps nothing but what happened, and looks it all up."""

    def __init__(self, size, book, turns):
        self.size, self.book, self.turns = size, book, turns
        self.happened = []

    def entries(self, number):
        """The entries that a number has had."""
        entered = [other for word, other in self.happened if word != "close"]
        return [entry for entry, other in enumerate(entered) if other == number]

    def is_free(self, number):
        words = [word for word, other in self.happened if other == number]
        return not words or words[-1] == "close"

    def entry(self, number):
        return None if self.is_free(number) else self.entries(number)[-1]

    def free(self):
        numbers = [number for number in range(self.size) if self.is_free(number)]
        if self.book == "any" or not numbers:
            return tuple(numbers)
        if self.book == "next":
            given = [-1] + [number for word, number in self.happened if word == "open"]
            numbers = [number for number in numbers if number > given[-1]] + numbers
        if self.book == "last":
            closed = [number for word, number in self.happened if word == "close"]
            numbers = [number for number in closed[::-1] if number in numbers] + numbers
        return (numbers[0],)

    def enter(self, word, number):
        """Open or renew: the handle as a tuple of number, turn and entry."""
        self.happened.append((word, number))
        entries = self.entries(number)
        return (number, (len(entries) - 1) % self.turns, entries[-1])

    def word(self, handle):
        """The word of a deed with a handle."""
        if handle is None or handle[0] >= self.size or self.is_free(handle[0]):
            return "refused"
        entries = self.entries(handle[0])
        if (len(entries) - 1) % self.turns != handle[1]:
            return "refused"
        return "done" if entries[-1] == handle[2] else "fault"


class PlainPlay:
    """A bench that is played, by the words of the document."""

    def __init__(self, bench):
        self.bench = bench
        self.table = PlainTable(bench.size, bench.book, bench.turns)
        self.sorts = [bench.program[name] for name in bench.hands]
        self.rows = [0 for _ in self.sorts]
        self.common = {name: None for name in bench.program.common}
        self.own = [{name: None for name in sort.own} for sort in self.sorts]
        self.takers = {name: None for name in bench.program.locks}
        self.fault = None

    def choices(self, hand):
        if self.fault is not None or self.rows[hand] == len(self.sorts[hand]):
            return []
        word, *names = self.sorts[hand][self.rows[hand]]
        if word == "go":
            return [choice for choice, _ in enumerate(names)]
        if word == "lock":
            return [0] if self.takers[names[0]] is None else []
        free = self.table.free()
        return list(free) if word == "open" and self.table.book == "any" and free else [0]

    def steps(self):
        return [(hand, choice) for hand, _ in enumerate(self.sorts) for choice in self.choices(hand)]

    def variables(self, hand, name):
        return self.common if name in self.common else self.own[hand]

    def step(self, hand, choice):
        """Make a step that can be made; return its word."""
        word, *names = self.sorts[hand][self.rows[hand]]
        told = "done"
        if word in ("open", "close", "renew", "use"):
            told = self.deal(hand, word, names[0], choice)
        elif word == "set":
            self.variables(hand, names[0])[names[0]] = self.variables(hand, names[1])[names[1]]
        elif word == "drop":
            self.variables(hand, names[0])[names[0]] = None
        elif word == "lock":
            self.takers[names[0]] = hand
        elif word == "unlock":
            if self.takers[names[0]] == hand:
                self.takers[names[0]] = None
        if told != "fault":
            self.rows[hand] = names[choice] if word == "go" else self.rows[hand] + 1
        return told

    def deal(self, hand, word, name, choice):
        variables, table = self.variables(hand, name), self.table
        if word == "open":
            free = table.free()
            number = choice if table.book == "any" else (*free, None)[0]
            variables[name] = table.enter("open", number) if free else None
            return "done" if free else "refused"
        handle = variables[name]
        told = table.word(handle)
        if told == "fault":
            self.fault = (handle[2], table.entry(handle[0]))
        elif told == "done" and word == "close":
            table.happened.append(("close", handle[0]))
        elif told == "done" and word == "renew":
            variables[name] = table.enter("renew", handle[0])
        return told


# Crowds, by the words of the document.


def statuses(turns):
    several = [f"{word}.{turn}" for word in ["early", "free", "late"] for turn in range(turns)]
    return ["none", "meant", *several]


def marks(turns):
    return ["-", "x"] + [f"o.{turn}" for turn in range(turns)]


def truths(many):
    return list(itertools.product([False, True], repeat=many))


def scenes(program, turns):
    """All scenes of the forms of the document."""
    common = itertools.product(marks(turns), repeat=len(program.common))
    return list(itertools.product(statuses(turns), common, truths(len(program.locks))))


def parts(program, turns):
    """All parts of the forms of the document."""
    found = []
    for index, sort in enumerate(program.sorts):
        own = list(itertools.product(marks(turns), repeat=len(sort.own)))
        found.extend(itertools.product([index], range(len(sort) + 1), own, truths(len(program.locks))))
    return found


def is_asleep(sort, at, name):
    """Whether no way from a row comes to one that reads a variable ahead of one that writes it."""
    seen, waiting = [], [at]
    while waiting:
        at = waiting.pop()
        if at in seen or at == len(sort):
            continue
        seen.append(at)
        row = sort[at]
        if row in [("close", name), ("renew", name), ("use", name)] or (row[0] == "set" and row[2] == name):
            return False
        if row in [("open", name), ("drop", name)] or row[:2] == ("set", name):
            continue
        waiting.extend(row[1:] if row[0] == "go" else [at + 1])
    return True


def is_plain_fault(program, scene, part):
    sort = program.sorts[part[0]]
    if part[1] == len(sort):
        return False
    row = sort[part[1]]
    if row[0] not in ("close", "renew", "use"):
        return False
    name = row[1]
    mark = part[2][sort.own.index(name)] if name in sort.own else scene[1][program.common.index(name)]
    return (mark, scene[0]) in [("x", "late.0"), ("o.0", "meant")]


def dealt(word, mark, status, turns):
    """The list of the marks and statuses to which an opening or a deed leads, by the words of the document."""
    if word == "open":
        found = [("-", status)]
        if status == "none":
            found += [("x", "meant")] + [(f"o.{turn}", f"early.{turn}") for turn in range(turns)]
        if status.startswith("free"):
            turn = (int(status[5:]) + 1) % turns
            found += [(f"o.{turn}", f"late.{turn}")]
        return found
    if (mark, status) in [("x", "late.0"), ("o.0", "meant")]:
        return []
    turn = int(mark[2:]) if mark.startswith("o") else 0
    behind = (turn + 1) % turns
    of_now = (mark, status) in [("x", "meant"), (f"o.{turn}", f"late.{turn}")]
    early = (mark, status) == (f"o.{turn}", f"early.{turn}")
    if word == "close" and of_now:
        return [(mark, f"free.{turn}")]
    if word == "close" and early:
        return []
    if word == "renew" and of_now:
        return [(f"o.{behind}", f"late.{behind}")]
    if word == "renew" and early:
        return [(f"o.{behind}", f"early.{behind}")] + ([("x", "meant")] if behind == 0 else [])
    return [(mark, status)]


def plain_moves(program, turns, scene, part):
    """The moves of a part in a scene by the words of the document, as a set."""
    sort = program.sorts[part[0]]
    if part[1] == len(sort):
        return set()
    row = sort[part[1]]
    status, taken, held = scene[0], dict(zip(program.locks, scene[2])), dict(zip(program.locks, part[3]))
    have = dict(zip(program.common + sort.own, scene[1] + part[2]))
    results = [(status, have)]
    if row[0] in ("open", "close", "renew", "use"):
        results = [(other, {**have, row[1]: mark}) for mark, other in dealt(row[0], have[row[1]], status, turns)]
    elif row[0] == "set":
        results = [(status, {**have, row[1]: have[row[2]]})]
    elif row[0] == "drop":
        results = [(status, {**have, row[1]: "-"})]
    elif row[0] == "lock":
        results = [] if taken[row[1]] else results
        taken[row[1]] = held[row[1]] = True
    elif row[0] == "unlock" and held[row[1]]:
        taken[row[1]] = held[row[1]] = False
    found = set()
    for other, have in results:
        for goal in row[1:] if row[0] == "go" else [part[1] + 1]:
            own = tuple("-" if is_asleep(sort, goal, name) else have[name] for name in sort.own)
            common = tuple(have[name] for name in program.common)
            found.add(((other, common, tuple(taken.values())), (part[0], goal, own, tuple(held.values()))))
    return found


def at_odds(scene, part):
    seen = scene[1] + part[2]
    if "x" in seen and (scene[0] == "none" or scene[0].startswith("early")):
        return True
    if scene[0] == "none" and any(mark.startswith("o") for mark in seen):
        return True
    return any(holds and not taken for holds, taken in zip(part[3], scene[2]))


def plain_reached(program, turns):
    """The least sets, by going over all pairs again until nothing is new."""
    found_scenes = {("none", ("-",) * len(program.common), (False,) * len(program.locks))}
    found_parts = {(index, 0, ("-",) * len(sort.own), (False,) * len(program.locks))
                   for index, sort in enumerate(program.sorts)}
    many = 0
    while len(found_scenes) + len(found_parts) > many:
        many = len(found_scenes) + len(found_parts)
        for scene, part in list(itertools.product(found_scenes, found_parts)):
            if not at_odds(scene, part):
                for behind, moved in plain_moves(program, turns, scene, part):
                    found_scenes.add(behind)
                    found_parts.add(moved)
    return found_scenes, found_parts


# Programs with each kind of row, with rounds, with locks that are freed, kept, or taken in two orders.
TEXTS = [
    "common c\nsort a\n  open c\n  close c\nsort b v\n  set v c\n  use v",
    "common c\nsort a\n  open c\n  renew c\n  close c\nsort b v\n  set v c\n  use v\n  close v",
    "sort a v w\n  open v\n  set w v\n  close v\n  open v\n  use w\n  close w",
    "sort a v\n  open v\n  close v\n  go 0 3\n  open v",
    "common c d\nsort a v\n  open c\n  set d c\n  close d\n  drop d\nsort b\n  close c\n  use d\n  open d",
    "common c\nlocks k\nsort a\n  lock k\n  open c\n  close c\n  unlock k\nsort b v\n  lock k\n  set v c\n  use v\n"
    "  unlock k",
    "locks k l\nsort a\n  lock k\n  lock l\n  unlock l\n  unlock k\nsort b\n  lock l\n  lock k\n  unlock k",
    "locks k\nsort a\n  lock k\n  unlock k\n  unlock k\n  lock k\nsort b\n  unlock k\n  lock k\n  rest",
    "common c\nsort a v\n  open v\n  set c v\n  go 1 3 3 4\n  renew c\n  use v",
    "common c\nsort a\n  go 1 2 0\n  open c\n  close c\n  go 0\nsort b v\n  set v c\n  go 2 2\n  renew v\n  use c",
    "common c d\nlocks k\nsort a v\n  lock k\n  open v\n  set d v\n  set c v\n  renew d\n  unlock k\nsort b\n  use c\n"
    "sort c\n  close d\n  go 0",
    "sort a v\n  renew v\n  close v\n  use v\n  drop v\n  set v v\n  rest\n  open v\n  use v\n  go 9\n  rest",
]

# A program whose crowd has very many scenes and parts.
WIDE = (
    "common c d\nlocks k l\nsort a v\n  lock k\n  open c\n  unlock k\n  set v c\n  use v\n  renew v\n  lock k\n"
    "  close v\n  unlock k\n  go 0 10\nsort b v w\n  lock k\n  set v c\n  lock l\n  set w d\n  use v\n  use w\n"
    "  close v\n  unlock l\n  unlock k\n  go 0 10\nsort c\n  lock l\n  open d\n  set d c\n  renew d\n  close d\n"
    "  unlock l\n  go 0 7"
)


def programs():
    return [read(text) for text in TEXTS]


def mixed_programs(many, seed):
    """So many programs whose rows are drawn, always the same ones for a seed."""
    draw = random.Random(seed)
    return [mixed_program(draw) for _ in range(many)]


def mixed_program(draw):
    common, locks = ["c", "d"][:draw.choice([1, 1, 2])], ["k"][:draw.choice([0, 0, 1])]
    sorts = []
    for name in "ab"[:draw.choice([1, 2, 2])]:
        own = ["v", "w"][:draw.choice([0, 1, 1, 2])]
        many = draw.randint(2, 6)
        sorts.append(Sort(name, [mixed_row(draw, own + common, locks, many) for _ in range(many)], own=own))
    return Program(*sorts, common=common, locks=locks)


def mixed_row(draw, variables, locks, many):
    words = ["open", "set"] * 3 + ["close", "renew", "use"] * 2 + ["drop", "go"] + ["lock", "unlock"] * len(locks)
    word = draw.choice(words)
    if word == "go":
        return ("go", *[draw.randint(0, many) for _ in range(draw.randint(1, 3))])
    if word == "set":
        return ("set", draw.choice(variables), draw.choice(variables))
    return (word, draw.choice(locks if word in ("lock", "unlock") else variables))


GIVERS = [
    [("open", "c"), ("close", "c")],
    [("lock", "k"), ("open", "c"), ("close", "c"), ("unlock", "k")],
    [("open", "c"), ("renew", "c")],
    [("lock", "k"), ("open", "c"), ("renew", "c"), ("close", "c"), ("drop", "c"), ("unlock", "k")],
    [("open", "v"), ("set", "c", "v"), ("close", "v"), ("go", 0, 4)],
    [("open", "v"), ("renew", "v"), ("renew", "v"), ("set", "c", "v")],
]
USERS = [
    [("set", "v", "c"), ("use", "v")],
    [("lock", "k"), ("set", "v", "c"), ("use", "v"), ("unlock", "k")],
    [("set", "v", "c"), ("lock", "k"), ("close", "v"), ("unlock", "k")],
    [("use", "c")],
    [("set", "v", "c"), ("renew", "v"), ("drop", "c"), ("go", 0, 4)],
]


def joined(giver, user):
    """A program with a giver and a user."""
    return Program(Sort("giver", giver, own=["v"]), Sort("user", user, own=["v"]), common=["c"], locks=["k"])


def all_programs():
    return [*programs(), *[joined(giver, user) for giver in GIVERS for user in USERS]]


def small_benches(program, turns, most):
    """Benches with up to so many hands, with each book and up to three numbers."""
    names = [sort.name for sort in program.sorts]
    for many in range(1, most + 1):
        for hands in itertools.combinations_with_replacement(names, many):
            for size, book in itertools.product([1, 2, 3], BOOKS):
                yield Bench(program, *hands, size=size, book=book, turns=turns)
