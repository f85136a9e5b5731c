"""Verdicts: whether a crowd is right, for any number of hands.

They are found backwards. An entry is a scene and a crew: the parts that are needed there so that moves lead to a
fault. First parts are left out of crews, as there are always more of them. Scenes and parts are told by their places
in the closure of the crowd, and a crew is an ascending tuple.
"""

from handlesagain.crowds import Closure, Crowd, are_at_odds
from handlesagain.errors import TooMany
from handlesagain.tables import MOST_TURNS

MOST_ENTRIES = 1000

# More than any number of moves or parts of a crew that a hunt comes to, to put them behind each other in one integer.
SPAN = 10000


def is_within(crew, other):
    """Whether each part of a crew occurs in another one at least as often."""
    found = 0
    for part in other:
        if found < len(crew) and crew[found] == part:
            found += 1
    return found == len(crew)


def _depths(firsts, ways):
    """The dict of the least number of ways that lead from first places to each place; ways are a dict of dicts."""
    depths = {}
    level = {place: True for place in firsts}
    depth = 0
    while level:
        for place in level:
            depths[place] = depth
        level = {goal: True for place in level for goal in ways.get(place, {}) if goal not in depths}
        depth += 1
    return depths


class Trail:
    """The moves of a crowd, told backwards."""

    def __init__(self, crowd):
        self._crowd = crowd
        self._closure = Closure(crowd)
        self._many_firsts = len(crowd.first_parts())
        # For each scene the dict of the scenes from which moves lead there, each with a dict of the part behind the
        # move and the list of the parts that move.
        self._sources = [{} for _ in self._closure.scenes]
        scene_ways = {}
        part_ways = {}
        for scene, part, behind, moved in self._closure.arrows:
            self._sources[behind].setdefault(scene, {}).setdefault(moved, []).append(part)
            scene_ways.setdefault(scene, {})[behind] = True
            part_ways.setdefault(part, {})[moved] = True
        self._scene_depths = _depths([0], scene_ways)
        self._part_depths = _depths(list(range(self._many_firsts)), part_ways)

    def faults(self):
        """The list of the entries of a scene and a part that is at a fault there."""
        return [(at, self._with((), place)) for at, scene in enumerate(self._closure.scenes)
                for place, part in enumerate(self._closure.parts)
                if self._crowd.is_fault(scene, part) and not are_at_odds(scene, [part])]

    def least_moves(self, scene, crew):
        """A number of moves that it takes at least to come to a scene and a crew from the beginning."""
        # A move is one of just one part.
        of_crew = sum([self._part_depths[part] for part in crew])
        of_scene = self._scene_depths[scene]
        return of_crew if of_crew > of_scene else of_scene

    def ahead_of(self, scene, crew):
        """The list of the entries from which one move leads to an entry, or to more than its crew."""
        found = []
        for source, movers in self._sources[scene].items():
            if source != scene and self._is_peaceful(source, crew):
                for parts in list(movers.values()):
                    found.extend([(source, self._with(crew, part)) for part in parts])
            for at, part in enumerate(crew):
                rest = crew[:at] + crew[at + 1:]
                found.extend([(source, self._with(rest, mover)) for mover in movers.get(part, [])])
        return [entry for entry in found if self._is_peaceful(entry[0], entry[1])]

    def _with(self, crew, part):
        """The crew with a part more, unless this is a first one."""
        if part < self._many_firsts:
            return crew
        least = tuple([other for other in crew if other < part])
        return (*least, part, *crew[len(least):])

    def _is_peaceful(self, scene, crew):
        """Whether the parts of a crew are not at odds in a scene."""
        parts = [self._closure.parts[part] for part in crew]
        return not are_at_odds(self._closure.scenes[scene], parts)


class Hunt:
    """A search for the beginning, from the faults on.

    The entries with the least crews come first, or else those on the way from the beginning to a fault that seems to
    have the fewest moves.
    """

    def __init__(self, trail, is_by_size):
        self._trail = trail
        self._is_by_size = is_by_size
        # The table: for each scene the list of the tuples of a crew, and of the number of moves from there to a fault.
        self._table = {}
        self._many = 0
        # The entries that have not come into the table, with their moves, by rank; and the least moves to each entry.
        self._waiting = {}
        self._known = {}

    def moves(self):
        """The number of moves from the beginning to a fault, the least one unless by size; None if there are none."""
        for scene, crew in self._trail.faults():
            self._wait(scene, crew, 0)
        while self._waiting:
            rank = min([int(other) for other in self._waiting])
            entries = self._waiting.pop(rank)
            for scene, crew, moves in entries:
                if (scene, crew) == (0, ()):
                    return moves
                if not self._is_covered(scene, crew, moves):
                    self._enter(scene, crew, moves)
        return None

    def _wait(self, scene, crew, moves):
        """Let an entry wait, unless it did already with as few moves."""
        if self._known.get((scene, crew), moves + 1) <= moves:
            return
        self._known[(scene, crew)] = moves
        if self._is_by_size:
            rank = len(crew) * SPAN + moves
        else:
            rank = ((moves + self._trail.least_moves(scene, crew)) * SPAN + moves) * SPAN + len(crew)
        self._waiting.setdefault(rank, []).append((scene, crew, moves))

    def _is_covered(self, scene, crew, moves):
        """Whether an entry in the table covers a scene and a crew, by size or with no more moves."""
        return any([is_within(other, crew) and (self._is_by_size or others <= moves)
                    for other, others in self._table.get(scene, [])])

    def _enter(self, scene, crew, moves):
        """Let an entry come into the table, and those ahead of it wait."""
        if self._many == MOST_ENTRIES:
            raise TooMany(MOST_ENTRIES)
        self._many += 1
        self._table.setdefault(scene, []).append((crew, moves))
        for source, parts in self._trail.ahead_of(scene, crew):
            self._wait(source, parts, moves + 1)


def is_right(crowd):
    """Whether a crowd is right."""
    trail = Trail(crowd)
    # Small crews cover many others, so this way most often takes the fewest entries, though not always.
    try:
        return Hunt(trail, True).moves() is None
    except TooMany:
        return Hunt(trail, False).moves() is None


def shortest_length(crowd):
    """Return the length of a shortest run to a fault, None if the crowd is right."""
    trail = Trail(crowd)
    try:
        moves = Hunt(trail, False).moves()
    except TooMany:
        # To see that there is no run at all may take fewer entries.
        if Hunt(trail, True).moves() is None:
            return None
        raise
    return None if moves is None else moves + 1


def least_turns(program):
    """Return the least number of turns with which the crowd of a program is right, None if there is none."""
    for turns in range(1, MOST_TURNS + 1):
        if is_right(Crowd(program, turns=turns)):
            return turns
    return None
