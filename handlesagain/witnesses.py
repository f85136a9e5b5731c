"""Witnesses: benches, and runs on them, that show that crowds are wrong."""

from handlesagain.benches import MOST_HANDS, Bench
from handlesagain.errors import TooMany
from handlesagain.plays import Play
from handlesagain.tables import MOST_NUMBERS
from handlesagain.verdicts import measured

# The number on the bench that is the one at which the crowd looks.
NUMBER = 0


class Cast:
    """Hands that take the parts along a path to a fault, and what each one does."""

    def __init__(self, hunt, program):
        # The names of the sorts of the hands, and their steps, with None for the choice of another number.
        self.names = []
        self.acts = []
        self._sorts = program.sorts
        self._trail = hunt.trail
        # The part that each hand is now.
        self._parts = []
        scene = 0
        for part, moved, behind in hunt.path():
            hand = self._hand_for(part)
            self.acts.append((hand, self._choice(scene, part, moved, behind)))
            self._parts[hand] = moved
            scene = behind

    def _hand_for(self, part):
        """A hand that is a part; it is a new one if none is, as the part is a first one then."""
        if part not in self._parts:
            self.names.append(self._sorts[self._trail.parts[part][0]].name)
            self._parts.append(part)
        return self._parts.index(part)

    def _choice(self, scene, part, moved, behind):
        """The choice with which a part moves, or does its deed at a fault."""
        sort, at, _, _ = self._trail.parts[part]
        row = self._sorts[sort][at]
        if row[0] == "go":
            return row[1:].index(self._trail.parts[moved][1])
        # If an opening gets the number at which the crowd looks, then the status is another one behind it.
        if row[0] == "open" and self._trail.scenes[scene][0] == self._trail.scenes[behind][0]:
            return None
        return NUMBER if row[0] == "open" else 0


def _run_on(bench, acts):
    """The run of the acts of a cast on a bench, None if an opening there can get no other number and must get one."""
    play = Play(bench)
    for hand, choice in acts:
        if choice is None:
            free = play.table().free()
            behind = [number for number in free if number != NUMBER]
            if free and not behind:
                return None
            # An opening that is refused gets no number, and this serves as well as another one.
            choice = behind[0] if behind else 0
        play.step(hand, choice)
    return play.made


def witness(crowd):
    """Return a bench and a shortest run to a fault there, None if the crowd is right."""
    hunt = measured(crowd)
    if hunt.many_moves is None:
        return None
    program = crowd.program
    turns = crowd.turns
    cast = Cast(hunt, program)
    hands = cast.names
    if len(hands) > MOST_HANDS:
        raise TooMany(MOST_NUMBERS)
    for size in range(1, MOST_NUMBERS + 1):
        bench = Bench(program, *hands, size=size, book="any", turns=turns)
        run = _run_on(bench, cast.acts)
        if run is not None:
            return bench, run
    raise TooMany(MOST_NUMBERS)
