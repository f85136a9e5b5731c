"""Verdicts: whether a crowd is right, for any number of hands.

They are found backwards. An entry is a scene and a crew: the parts that are needed there so that moves lead to a
fault. First parts are left out of crews, as there are always more of them. Scenes and parts are told by their places
in the closure of the crowd, and a crew is an ascending tuple.
"""

from handlesagain.crowds import Closure, Crowd, are_at_odds
from handlesagain.errors import TooMany
from handlesagain.tables import MOST_TURNS

MOST_ENTRIES = 1000

# More than any number of moves or parts of a crew that a hunt comes to, to put them behind each other in one integer.
SPAN = 10000


def is_within(crew, other):
    """Whether each part of a crew occurs in another one at least as often."""
    found = 0
    for part in other:
        if found < len(crew) and crew[found] == part:
            found += 1
    return found == len(crew)


def _depths(firsts, ways):
    """The dict of the least number of ways that lead from first places to each place; ways are a dict of dicts."""
    depths = {}
    level = {place: True for place in firsts}
    depth = 0
    while level:
        for place in level:
            depths[place] = depth
        level = {goal: True for place in level for goal in ways.get(place, {}) if goal not in depths}
        depth += 1
    return depths


class Trail:
    """The moves of a crowd, told backwards.

    Scenes, parts and arrows are as those of a closure: all moves of parts that are not at odds, the first scene and
    the first parts ahead.
    """

    def __init__(self, crowd, scenes, parts, arrows):
        self.scenes = scenes
        self.parts = parts
        self._crowd = crowd
        self._many_firsts = len(crowd.first_parts())
        # For each scene the dict of the scenes from which moves lead there, each with a dict of the part behind the
        # move and the list of the parts that move.
        self._sources = [{} for _ in scenes]
        scene_ways = {}
        part_ways = {}
        for scene, part, behind, moved in arrows:
            self._sources[behind].setdefault(scene, {}).setdefault(moved, []).append(part)
            scene_ways.setdefault(scene, {})[behind] = True
            part_ways.setdefault(part, {})[moved] = True
        self._scene_depths = _depths([0], scene_ways)
        self._part_depths = _depths(list(range(self._many_firsts)), part_ways)

    def faults(self):
        """The list of the tuples of a scene, a part that is at a fault there, and the crew that is needed for it."""
        return [(at, place, self._with((), place)) for at, scene in enumerate(self.scenes)
                for place, part in enumerate(self.parts)
                if self._crowd.is_fault(scene, part) and not are_at_odds(scene, [part])]

    def least_moves(self, scene, crew):
        """A number of moves that it takes at least to come to a scene and a crew from the beginning."""
        # A move is one of just one part.
        of_crew = sum([self._part_depths[part] for part in crew])
        of_scene = self._scene_depths[scene]
        return of_crew if of_crew > of_scene else of_scene

    def ahead_of(self, scene, crew):
        """The list of the entries from which one move leads to an entry, or to more than its crew.

        They are tuples of a scene, a crew, the part that moves, and what it becomes.
        """
        found = []
        for source, movers in self._sources[scene].items():
            if source != scene and self.is_peaceful(source, crew):
                for moved, parts in movers.items():
                    found.extend([(source, self._with(crew, part), part, moved) for part in parts])
            for at, moved in enumerate(crew):
                rest = crew[:at] + crew[at + 1:]
                found.extend([(source, self._with(rest, part), part, moved) for part in movers.get(moved, [])])
        return [entry for entry in found if self.is_peaceful(entry[0], entry[1])]

    def _with(self, crew, part):
        """The crew with a part more, unless this is a first one."""
        if part < self._many_firsts:
            return crew
        least = tuple([other for other in crew if other < part])
        return (*least, part, *crew[len(least):])

    def is_peaceful(self, scene, crew):
        """Whether the parts of a crew are not at odds in a scene."""
        return not are_at_odds(self.scenes[scene], [self.parts[part] for part in crew])


class Hunt:
    """A search for the beginning, from the faults on.

    The entries with the least crews come first, or else those on the way from the beginning to a fault that seems to
    have the fewest moves.
    """

    def __init__(self, trail, is_by_size):
        self.trail = trail
        self._is_by_size = is_by_size
        # The table: for each scene the list of the tuples of a crew, and of the number of moves from there to a fault.
        self._table = {}
        self._many = 0
        # The entries that have not come into the table, with their moves, by rank; and the least moves to each entry.
        self._waiting = {}
        self._known = {}
        # For each entry a part that moves, what it becomes and the entry behind; these are None where it is at a fault.
        self._causes = {}
        # The number of moves from the beginning to a fault, the least one unless by size; None if there are none.
        self.many_moves = self._search()

    def _search(self):
        """The number of moves from the beginning to a fault, None if there are none."""
        for scene, part, crew in self.trail.faults():
            self._wait(scene, crew, 0, (part, None, None))
        while self._waiting:
            rank = min([int(other) for other in self._waiting])
            entries = self._waiting.pop(rank)
            for scene, crew, moves in entries:
                if (scene, crew) == (0, ()):
                    return moves
                if not self._is_covered(scene, crew, moves):
                    self._enter(scene, crew, moves)
        return None

    def _wait(self, scene, crew, moves, cause):
        """Let an entry wait, unless it did already with as few moves."""
        if self._known.get((scene, crew), moves + 1) <= moves:
            return
        self._known[(scene, crew)] = moves
        self._causes[(scene, crew)] = cause
        if self._is_by_size:
            rank = len(crew) * SPAN + moves
        else:
            rank = ((moves + self.trail.least_moves(scene, crew)) * SPAN + moves) * SPAN + len(crew)
        self._waiting.setdefault(rank, []).append((scene, crew, moves))

    def _is_covered(self, scene, crew, moves):
        """Whether an entry in the table covers a scene and a crew, by size or with no more moves."""
        return any([is_within(other, crew) and (self._is_by_size or others <= moves)
                    for other, others in self._table.get(scene, [])])

    def _enter(self, scene, crew, moves):
        """Let an entry come into the table, and those ahead of it wait."""
        if self._many == MOST_ENTRIES:
            raise TooMany(MOST_ENTRIES)
        self._many += 1
        self._table.setdefault(scene, []).append((crew, moves))
        for source, parts, part, moved in self.trail.ahead_of(scene, crew):
            self._wait(source, parts, moves + 1, (part, moved, (scene, crew)))

    def entries(self):
        """The list of the entries in the table."""
        return [(scene, crew) for scene, crews in self._table.items() for crew, _ in crews]

    def path(self):
        """The list of the moves from the beginning to a fault, where there is one, and the part that is at a fault.

        A move is a tuple of a part, what it becomes, and the scene behind; these are None for the part at a fault.
        """
        found = []
        entry = (0, ())
        while entry is not None:
            part, moved, entry = self._causes[entry]
            found.append((part, moved, None if entry is None else entry[0]))
        return found


def _trail_of(crowd):
    """The trail through all that is reached in a crowd."""
    closure = Closure(crowd)
    return Trail(crowd, closure.scenes, closure.parts, closure.arrows)


def judged(crowd):
    """A hunt that has found out whether a crowd is right."""
    trail = _trail_of(crowd)
    # Small crews cover many others, so this way most often takes the fewest entries, though not always.
    try:
        return Hunt(trail, True)
    except TooMany:
        return Hunt(trail, False)


def measured(crowd):
    """A hunt that has found the least number of moves to a fault, or that there is none."""
    trail = _trail_of(crowd)
    try:
        return Hunt(trail, False)
    except TooMany:
        # To see that there is no run at all may take fewer entries.
        hunt = Hunt(trail, True)
        if hunt.many_moves is None:
            return hunt
        raise


def is_right(crowd):
    """Whether a crowd is right."""
    return judged(crowd).many_moves is None


def shortest_length(crowd):
    """Return the length of a shortest run to a fault, None if the crowd is right."""
    moves = measured(crowd).many_moves
    return None if moves is None else moves + 1


def least_turns(program):
    """Return the least number of turns with which the crowd of a program is right, None if there is none."""
    for turns in range(1, MOST_TURNS + 1):
        if is_right(Crowd(program, turns=turns)):
            return turns
    return None
