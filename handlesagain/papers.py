"""Papers: what shows that a crowd is right, or wrong, to whoever checks it."""

from handlesagain.benches import Bench
from handlesagain.checks import is_index
from handlesagain.crowds import MEANT, NOTHING, are_at_odds
from handlesagain.errors import HandleError
from handlesagain.verdicts import Trail, is_within, judged
from handlesagain.witnesses import witness


def paper(crowd):
    """Return a paper for a crowd."""
    hunt = judged(crowd)
    if hunt.many_moves is None:
        return _right_paper(hunt)
    bench, run = witness(crowd)
    return ("wrong", bench.hands, bench.size, run)


def _right_paper(hunt):
    """The paper of a hunt that found no way from the beginning to a fault."""
    scenes = hunt.trail.scenes
    parts = hunt.trail.parts
    table = [(scenes[scene], tuple([parts[part] for part in crew])) for scene, crew in hunt.entries()]
    return ("right", tuple(scenes), tuple(parts), tuple(table))


def accepts(crowd, value):
    """Whether any value is a paper for a crowd."""
    # An object of another kind might not bear a comparison.
    if not _is_tuple_of(value, 4) or not isinstance(value[0], str):
        return False
    if value[0] == "wrong":
        return _shows_wrong(crowd, value[1], value[2], value[3])
    return value[0] == "right" and _shows_right(crowd, value[1], value[2], value[3])


def _is_tuple_of(value, many):
    """Whether any value is a tuple of so many items."""
    return isinstance(value, tuple) and len(value) == many


def _shows_wrong(crowd, hands, size, run):
    """Whether any values make a bench for a crowd and a run that ends with a fault there."""
    if not isinstance(hands, tuple) or not isinstance(run, tuple):
        return False
    program = crowd.program
    turns = crowd.turns
    try:
        bench = Bench(program, *hands, size=size, book="any", turns=turns)
        words = bench(run)
    except HandleError:
        return False
    return "fault" in words


def _shows_right(crowd, scenes, parts, table):
    """Whether any values are scenes, parts and entries which show that no way from the beginning leads to a fault."""
    forms = Forms(crowd)
    if not forms.are_scenes(scenes) or not forms.are_parts(parts) or not isinstance(table, tuple):
        return False
    firsts = crowd.first_parts()
    if crowd.first_scene() not in scenes or not all([part in parts for part in firsts]):
        return False
    # A trail has the first ones ahead, and each one once.
    all_scenes = _unlike([crowd.first_scene(), *scenes])
    all_parts = _unlike([*firsts, *parts])
    arrows = _arrows(crowd, all_scenes, all_parts)
    if arrows is None:
        return False
    trail = Trail(crowd, all_scenes, all_parts, arrows)
    entries = _entries(trail, forms, table, len(firsts))
    return entries is not None and (0, ()) not in entries and _are_closed(trail, entries)


def _unlike(items):
    """The list of the items without duplicates, in their order."""
    return list({item: True for item in items})


def _places(items):
    """The dict of the places of the items."""
    return {item: at for at, item in enumerate(items)}


def _arrows(crowd, scenes, parts):
    """The list of the moves of parts in scenes, as a closure has them, None if one leads to others than these."""
    scene_places = _places(scenes)
    part_places = _places(parts)
    found = []
    for source, scene in enumerate(scenes):
        for mover, part in enumerate(parts):
            moves = [] if are_at_odds(scene, [part]) else crowd.moves(scene, part)
            for behind, moved in moves:
                if behind not in scene_places or moved not in part_places:
                    return None
                found.append((source, mover, scene_places[behind], part_places[moved]))
    return found


def _entries(trail, forms, table, many_firsts):
    """The list of the entries of a tuple, with places of scenes and parts, None if any of its items is no entry."""
    scene_places = _places(trail.scenes)
    part_places = _places(trail.parts)
    found = []
    for item in table:
        if not _is_tuple_of(item, 2) or not forms.is_scene(item[0]) or not forms.are_parts(item[1]):
            return None
        scene = scene_places.get(item[0])
        if scene is None or not all([part in part_places for part in item[1]]):
            return None
        crew = tuple(sorted([int(part_places[part]) for part in item[1]]))
        if any([part < many_firsts for part in crew]) or not trail.is_peaceful(scene, crew):
            return None
        found.append((scene, crew))
    return found


def _are_closed(trail, entries):
    """Whether entries cover all faults, and all that a move leads from to one of the entries."""
    crews = {}
    for scene, crew in entries:
        crews.setdefault(scene, []).append(crew)
    for scene, _, crew in trail.faults():
        if not _is_covered(crews, scene, crew):
            return False
    covered = {}
    for scene, crew in entries:
        for source, parts, _, _ in trail.ahead_of(scene, crew):
            if (source, parts) not in covered and not _is_covered(crews, source, parts):
                return False
            covered[(source, parts)] = True
    return True


def _is_covered(crews, scene, parts):
    """Whether one of the crews, which are told by scenes, covers a scene and some parts."""
    return any([is_within(crew, parts) for crew in crews.get(scene, [])])


class Forms:
    """The forms of scenes and parts of a crowd."""

    def __init__(self, crowd):
        program = crowd.program
        turns = list(range(crowd.turns))
        self._statuses = ["none", "meant"] + [f"{word}.{turn}" for word in ("early", "free", "late") for turn in turns]
        self._marks = [NOTHING, MEANT] + [f"o.{turn}" for turn in turns]
        self._sorts = program.sorts
        self._many_common = len(program.common)
        self._many_locks = len(program.locks)

    def are_scenes(self, value):
        """Whether any value is a tuple of scenes."""
        return isinstance(value, tuple) and all([self.is_scene(item) for item in value])

    def are_parts(self, value):
        """Whether any value is a tuple of parts."""
        return isinstance(value, tuple) and all([self.is_part(item) for item in value])

    def is_scene(self, value):
        """Whether any value is a scene."""
        if not _is_tuple_of(value, 3) or not _is_word_of(value[0], self._statuses):
            return False
        return self._are_marks(value[1], self._many_common) and self._are_truths(value[2])

    def is_part(self, value):
        """Whether any value is a part."""
        if not _is_tuple_of(value, 4) or not is_index(value[0], len(self._sorts)):
            return False
        sort = self._sorts[value[0]]
        # A part that has ended is behind the last row.
        if not is_index(value[1], len(sort) + 1):
            return False
        return self._are_marks(value[2], len(sort.own)) and self._are_truths(value[3])

    def _are_marks(self, value, many):
        """Whether any value is a tuple of so many marks."""
        return _is_tuple_of(value, many) and all([_is_word_of(mark, self._marks) for mark in value])

    def _are_truths(self, value):
        """Whether any value is a tuple of a truth value for each lock."""
        return _is_tuple_of(value, self._many_locks) and all([isinstance(truth, bool) for truth in value])


def _is_word_of(value, words):
    """Whether any value is one of the words."""
    return isinstance(value, str) and value in words
