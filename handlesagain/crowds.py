"""Crowds: programs with any number of hands, seen from one number and one entry of it."""

from handlesagain.checks import is_between
from handlesagain.errors import InvalidNumber, InvalidProgram, TooMany
from handlesagain.programs import DEEDS, Program, placed, places_of, replaced
from handlesagain.tables import MOST_TURNS

MOST_PAIRS = 200000

NOTHING = "-"
MEANT = "x"

# A status, and the mark of the variable of a deed that is a fault there.
FAULTS = (("late.0", "x"), ("meant", "o.0"))


def _openings(turns):
    """The dict of the statuses at which an opening can get the number, and of what it leads to: statuses and marks."""
    found = {"none": (("meant", "x"),) + tuple([(f"early.{turn}", f"o.{turn}") for turn in range(turns)])}
    for turn in range(turns):
        behind = (turn + 1) % turns
        found[f"free.{turn}"] = ((f"late.{behind}", f"o.{behind}"),)
    return found


def _closings(turns):
    """The dict of what closing leads to, by status and mark: statuses and marks, where these do not just stay."""
    found = {("meant", "x"): (("free.0", "x"),)}
    for turn in range(turns):
        found[(f"late.{turn}", f"o.{turn}")] = ((f"free.{turn}", f"o.{turn}"),)
        found[(f"early.{turn}", f"o.{turn}")] = ()
    return found


def _renewals(turns):
    """The dict of what renewing leads to, like that of closing."""
    found = {}
    for turn in range(turns):
        behind = (turn + 1) % turns
        late = (f"late.{behind}", f"o.{behind}")
        early = (f"early.{behind}", f"o.{behind}")
        found[(f"late.{turn}", f"o.{turn}")] = (late,)
        found[(f"early.{turn}", f"o.{turn}")] = (early, ("meant", "x")) if behind == 0 else (early,)
        if turn == 0:
            found[("meant", "x")] = (late,)
    return found


def _goals(row, at):
    """The tuple of the rows to which the row at a place can lead."""
    return row[1:] if row[0] == "go" else (at + 1,)


def _reads(row, name):
    """Whether a row reads a variable."""
    return (row[0] in DEEDS and row[1] == name) or (row[0] == "set" and row[2] == name)


def _writes(row, name):
    """Whether a row writes a variable, whatever it has."""
    return row[0] in ("open", "drop", "set") and row[1] == name


def _awakenings(rows, name):
    """The list of whether a variable is awake at each row, and behind the last one."""
    awake = [False] * (len(rows) + 1)
    before = []
    while awake != before:
        before = list(awake)
        for at, row in enumerate(rows):
            goes_on = not _writes(row, name) and any([awake[goal] for goal in _goals(row, at)])
            awake[at] = _reads(row, name) or goes_on
    return awake


class Crowd:
    """A program with turns, and any number of hands of each of its sorts."""

    def __init__(self, program, *, turns=1):
        if not isinstance(program, Program):
            raise InvalidProgram(program)
        if not is_between(turns, 1, MOST_TURNS):
            raise InvalidNumber(turns)
        self._program = program
        self._turns = turns
        # In the rows of a crowd, own variables are behind the common ones.
        many = len(program.common)
        self._rows = [placed(sort.rows, places_of(program, sort, many)) for sort in program.sorts]
        self._awake = [[_awakenings(sort.rows, name) for name in sort.own] for sort in program.sorts]
        self._opened = _openings(turns)
        self._dealt = {"close": _closings(turns), "renew": _renewals(turns), "use": {}}
        for word in DEEDS:
            for fault in FAULTS:
                self._dealt[word][fault] = ()

    @property
    def program(self):
        """The program."""
        return self._program

    @property
    def turns(self):
        """The number of turns."""
        return self._turns

    def __eq__(self, other):
        return isinstance(other, Crowd) and self._program == other._program and self._turns == other._turns

    def first_scene(self):
        """Return the scene at the beginning."""
        program = self._program
        return ("none", (NOTHING,) * len(program.common), (False,) * len(program.locks))

    def first_parts(self):
        """Return the tuple of the parts at the beginning, by sorts."""
        held = (False,) * len(self._program.locks)
        sorts = self._program.sorts
        return tuple([(index, 0, (NOTHING,) * len(sort.own), held) for index, sort in enumerate(sorts)])

    def moves(self, scene, part):
        """Return the list of the tuples (scene, part) to which a part can move in a scene."""
        sort, at, own, held = part
        if at == len(self._rows[sort]):
            return []
        row = self._rows[sort][at]
        many = len(scene[1])
        found = {}
        for status, marks, taken, holds in self._effects(scene, own, held, row):
            for goal in _goals(row, at):
                rested = self._rested(sort, goal, marks[many:])
                found[((status, marks[:many], taken), (sort, goal, rested, holds))] = True
        return list(found)

    def _rested(self, sort, at, marks):
        """The marks of own variables, without those of variables that are asleep at a row."""
        return tuple([mark if awake[at] else NOTHING for mark, awake in zip(marks, self._awake[sort])])

    def _effects(self, scene, own, held, row):
        """The list of what a row can lead to: status, marks of common and own variables, taken and held locks."""
        status, common, taken = scene
        marks = common + own
        word = row[0]
        if word == "open" or word in DEEDS:
            outcomes = self._outcomes(word, status, marks[row[1]])
            return [(behind, replaced(marks, row[1], mark), taken, held) for behind, mark in outcomes]
        if word == "set":
            marks = replaced(marks, row[1], marks[row[2]])
        elif word == "drop":
            marks = replaced(marks, row[1], NOTHING)
        elif word == "lock" and taken[row[1]]:
            return []
        elif word == "lock" or (word == "unlock" and held[row[1]]):
            taken = replaced(taken, row[1], word == "lock")
            held = replaced(held, row[1], word == "lock")
        return [(status, marks, taken, held)]

    def _outcomes(self, word, status, mark):
        """The tuple of the statuses and marks to which an opening or a deed leads, where the variable has a mark."""
        if word == "open":
            return ((status, NOTHING),) + self._opened.get(status, ())
        return self._dealt[word].get((status, mark), ((status, mark),))

    def is_fault(self, scene, part):
        """Whether a part is at a fault in a scene."""
        sort, at, own, _ = part
        if at == len(self._rows[sort]) or self._rows[sort][at][0] not in DEEDS:
            return False
        status, common, _ = scene
        marks = common + own
        return (status, marks[self._rows[sort][at][1]]) in FAULTS

    def reached(self):
        """Return the tuples of the scenes and of the parts to which moves lead, of any two that are not at odds."""
        closure = Closure(self)
        return tuple(closure.scenes), tuple(closure.parts)


def are_at_odds(scene, parts):
    """Whether some parts, or none, are at odds in a scene."""
    status, common, taken = scene
    for lock, is_taken in enumerate(taken):
        holders = [part for part in parts if part[3][lock]]
        if len(holders) > 1 or (holders and not is_taken):
            return True
    if status != "none" and not status.startswith("early."):
        return False
    marks = list(common)
    for part in parts:
        marks.extend(part[2])
    if status == "none":
        return any([mark != NOTHING for mark in marks])
    return MEANT in marks


class Closure:
    """The least sets of scenes and parts with the first ones from which no move leads away, and these moves."""

    def __init__(self, crowd):
        self.scenes = []
        self.parts = []
        # The moves, as tuples of the places of a scene and a part and of those to which they lead.
        self.arrows = []
        self._crowd = crowd
        self._scene_places = {}
        self._part_places = {}
        # The places of each scene and part whose moves are not known.
        self._waiting = []
        self._place_of_scene(crowd.first_scene())
        for part in crowd.first_parts():
            self._place_of_part(part)
        self._close()

    def _close(self):
        """Take in all that is reached."""
        while self._waiting:
            if len(self.scenes) * len(self.parts) > MOST_PAIRS:
                raise TooMany(MOST_PAIRS)
            scene, part = self._waiting.pop()
            self._move(scene, part)

    def _move(self, scene, part):
        """Take in the moves of a part in a scene, unless they are at odds."""
        if are_at_odds(self.scenes[scene], [self.parts[part]]):
            return
        moves = self._crowd.moves(self.scenes[scene], self.parts[part])
        for behind, moved in moves:
            self.arrows.append((scene, part, self._place_of_scene(behind), self._place_of_part(moved)))

    def _place_of_scene(self, scene):
        """The place of a scene, which is new or known."""
        if scene not in self._scene_places:
            at = len(self.scenes)
            self._scene_places[scene] = at
            self.scenes.append(scene)
            self._waiting.extend([(at, part) for part in range(len(self.parts))])
        return self._scene_places[scene]

    def _place_of_part(self, part):
        """The place of a part, which is new or known."""
        if part not in self._part_places:
            at = len(self.parts)
            self._part_places[part] = at
            self.parts.append(part)
            self._waiting.extend([(scene, at) for scene in range(len(self.scenes))])
        return self._part_places[part]
