"""handlesagain/papers.py."""

import collections
import itertools
import random
import unittest

from helpers import (WIDE, Stubborn, all_programs, at_odds, is_plain_fault, marks, mixed_programs, others, parts,
                     plain_moves, plain_reached, scenes, statuses)

from handlesagain.crowds import Crowd
from handlesagain.errors import TooMany
from handlesagain.papers import accepts, paper
from handlesagain.programs import Program, Sort
from handlesagain.texts import read
from handlesagain.verdicts import is_right
from handlesagain.witnesses import witness

PAIR = Program.pair()
TURNS = range(1, 5)

ALONE = Program.lone(Sort("a", [("open", "v"), ("use", "v"), ("close", "v")], own=["v"]))

# Right programs whose faults are kept away by locks, or by what no hand can come to.
LOCKED = read("common c\nlocks k\nsort a\n  lock k\n  open c\n  close c\n  unlock k\nsort b v\n  lock k\n  set v c\n"
              "  use v\n  unlock k")
RIGHT = [
    (ALONE, 1), (ALONE, 2), (LOCKED, 1), (LOCKED, 2),
    (read("locks k\nsort a v w\n  lock k\n  open v\n  set w v\n  renew v\n  close w\n  unlock k"), 2),
    (read("common c\nlocks k\nsort a\n  lock k\n  open c\n  renew c\n  drop c\n  unlock k\nsort b v\n  lock k\n"
          "  set v c\n  close v\n  unlock k"), 1),
    (read("common c\nsort a\n  open c\nsort b v\n  set v c\n  go 0 2\n  use v"), 3),
]


def right_crowds():
    return [Crowd(program, turns=turns) for program, turns in RIGHT]


def firsts_of(crowd):
    program = crowd.program
    held = (False,) * len(program.locks)
    return [(index, 0, ("-",) * len(sort.own), held) for index, sort in enumerate(program.sorts)]


def first_scene_of(crowd):
    program = crowd.program
    return ("none", ("-",) * len(program.common), (False,) * len(program.locks))


def are_odd(scene, crew):
    """Whether some parts, or none, are at odds in a scene, by the words of the document."""
    nobody = (0, 0, (), (False,) * len(scene[2]))
    if any(at_odds(scene, part) for part in [nobody, *crew]):
        return True
    return any(len([part for part in crew if part[3][lock]]) > 1 for lock, _ in enumerate(scene[2]))


def covers(entry, scene, crew):
    needed, there = collections.Counter(entry[1]), collections.Counter(crew)
    return entry[0] == scene and all(needed[part] <= there[part] for part in needed)


def needs(crowd, all_scenes, all_parts, entry):
    """What has to be covered because of an entry, or because of faults if it is None, by the words of the document."""
    program, firsts = crowd.program, firsts_of(crowd)
    for scene, part in itertools.product(all_scenes, all_parts):
        if at_odds(scene, part):
            continue
        mover = [] if part in firsts else [part]
        if entry is None and is_plain_fault(program, scene, part):
            yield scene, mover
        if entry is None:
            continue
        crew = list(entry[1])
        for behind, moved in plain_moves(program, crowd.turns, scene, part):
            if behind == entry[0]:
                yield scene, crew + mover
                if moved in crew:
                    at = crew.index(moved)
                    yield scene, crew[:at] + crew[at + 1:] + mover


def is_plain_right(crowd, all_scenes, all_parts, table):
    """Whether scenes, parts and entries, which are of the right forms, make a paper, by the words of the document."""
    firsts, program = firsts_of(crowd), crowd.program
    if first_scene_of(crowd) not in all_scenes or any(part not in all_parts for part in firsts):
        return False
    for scene, part in itertools.product(all_scenes, all_parts):
        for behind, moved in [] if at_odds(scene, part) else plain_moves(program, crowd.turns, scene, part):
            if behind not in all_scenes or moved not in all_parts:
                return False
    for scene, crew in table:
        if scene not in all_scenes or are_odd(scene, crew):
            return False
        if any(part not in all_parts or part in firsts for part in crew):
            return False
        if not crew and scene == first_scene_of(crowd):
            return False
    for entry in [None, *table]:
        for scene, crew in needs(crowd, all_scenes, all_parts, entry):
            if not are_odd(scene, crew) and not any(covers(other, scene, crew) for other in table):
                return False
    return True


def plain_table(crowd, all_scenes, all_parts):
    """A table for scenes and parts by the words of the document: each thing that is needed becomes an entry."""
    table, waiting = [], [None]
    while waiting:
        for scene, crew in needs(crowd, all_scenes, all_parts, waiting.pop(0)):
            if not are_odd(scene, crew) and not any(covers(other, scene, crew) for other in table):
                table.append((scene, tuple(crew)))
                waiting.append(table[-1])
    return tuple(table)


def places(value):
    """The ways to all items of nested tuples: tuples of indexes."""
    yield ()
    if isinstance(value, tuple):
        for at, item in enumerate(value):
            for place in places(item):
                yield (at, *place)


def item_at(value, place):
    for at in place:
        value = value[at]
    return value


def changed(value, place, item):
    """The nested tuples with another item at a place."""
    if not place:
        return item
    at = place[0]
    return (*value[:at], changed(value[at], place[1:], item), *value[at + 1:])


def without(value, place):
    """The nested tuples without the item at a place."""
    around = item_at(value, place[:-1])
    return changed(value, place[:-1], around[:place[-1]] + around[place[-1] + 1:])


class PaperCase(unittest.TestCase):
    def accepted(self, crowd, value):
        self.assertIs(accepts(crowd, value), True)

    def refused(self, crowd, value):
        # The message is put together by hand as not all objects can be shown at any length.
        self.assertIs(accepts(crowd, value), False)

    def judged(self, crowd, value):
        """The paper is accepted just if the words of the document say so."""
        expected = is_plain_right(crowd, *value[1:])
        self.assertIs(accepts(crowd, value), expected, value)
        return expected


class TestExample(PaperCase):
    def test_the_example_of_the_document(self):
        alone = Crowd(Program.lone(Sort("a", [("open", "v"), ("use", "v"), ("close", "v")], own=["v"])))
        told = [paper(alone)[0], accepts(alone, paper(alone)), accepts(alone, ("right", (), (), ()))]
        self.assertEqual(told, ["right", True, False])

    def test_by_name(self):
        crowd = Crowd(PAIR)
        self.assertIs(accepts(value=paper(crowd=crowd), crowd=crowd), True)


class TestPaper(PaperCase):
    def check(self, crowd):
        """The paper of a crowd, which is accepted."""
        try:
            told = paper(crowd)
        except TooMany as error:
            with self.assertRaises(TooMany) as caught:
                witness(crowd)
            self.assertEqual(caught.exception.limit, error.limit)
            return None
        self.assertIs(type(told), tuple)
        self.assertEqual((len(told), told[0]), (4, "right" if is_right(crowd) else "wrong"))
        self.accepted(crowd, told)
        return told

    def test_all_programs(self):
        words = [self.check(Crowd(program, turns=turns)) for program in all_programs() for turns in TURNS]
        told = collections.Counter(word[0] for word in words if word is not None)
        self.assertGreater(min(told["right"], told["wrong"]), 60)

    def test_programs_whose_rows_are_drawn(self):
        for at, program in enumerate(mixed_programs(300, "papers")):
            self.check(Crowd(program, turns=1 + at % 4))

    def test_a_right_paper_by_the_words_of_the_document(self):
        crowds = [*right_crowds(), *[Crowd(program) for program in mixed_programs(60, "words")]]
        for crowd in crowds:
            told = self.check(crowd)
            if told is not None and told[0] == "right" and len(told[3]) < 60:
                self.assertTrue(is_plain_right(crowd, *told[1:]))
                self.assertEqual([type(item) for item in told[1:]], [tuple] * 3)

    def test_a_wrong_paper(self):
        for turns in TURNS:
            crowd = Crowd(PAIR, turns=turns)
            bench, run = witness(crowd)
            self.assertEqual(self.check(crowd), ("wrong", bench.hands, bench.size, run))

    def test_the_errors_of_witness(self):
        for turns, limit in [(4, 200000), (3, 1000)]:
            with self.assertRaises(TooMany) as caught:
                paper(Crowd(read(WIDE), turns=turns))
            self.assertEqual(caught.exception.limit, limit)

    def test_a_right_crowd_with_many_entries_that_few_others_cover(self):
        program = read("common c\nlocks k\nsort a v\n  set c v\n  go 0 0\n  lock k\n  unlock k\n  set v c\n  use c\n"
                       "  lock k\nsort b v\n  lock k\n  go 1 0\n  lock k\n  drop c\nsort c v\n  open v\n  set c c\n"
                       "  renew c\n  open c\n  use v\n  set v v")
        self.assertEqual(self.check(Crowd(program, turns=3))[0], "right")

    def test_equal_crowds_have_equal_papers(self):
        for program, turns in RIGHT:
            self.assertEqual(paper(Crowd(program, turns=turns)), paper(Crowd(program, turns=turns)))


class TestRight(PaperCase):
    def made(self, crowd):
        """A paper that the test makes, of what is reached."""
        all_scenes, all_parts = [tuple(sorted(found)) for found in plain_reached(crowd.program, crowd.turns)]
        return ("right", all_scenes, all_parts, plain_table(crowd, all_scenes, all_parts))

    def small_crowds(self):
        """Crowds with tables that are not great."""
        crowds = [*right_crowds(), *[Crowd(program) for program in mixed_programs(120, "small")]]
        return [crowd for crowd in crowds if self.is_small(crowd)]

    def is_small(self, crowd):
        found = plain_reached(crowd.program, crowd.turns)
        if len(found[0]) * len(found[1]) > 400:
            return False
        try:
            told = paper(crowd)
        except TooMany:
            return False
        return told[0] == "right" and len(told[3]) < 30

    def test_papers_by_the_words_of_the_document(self):
        many = 0
        for crowd in self.small_crowds():
            made = self.made(crowd)
            self.accepted(crowd, made)
            many += len(made[3]) > 0
        self.assertGreater(many, 8)

    def test_no_such_paper_for_crowds_that_are_wrong(self):
        for crowd in [Crowd(PAIR), Crowd(PAIR, turns=2),
                      Crowd(Program.lone(Sort("a", [("open", "v"), ("close", "v"), ("use", "v")], own=["v"])))]:
            self.refused(crowd, self.made(crowd))
            all_scenes, all_parts = [tuple(found) for found in plain_reached(crowd.program, crowd.turns)]
            self.refused(crowd, ("right", all_scenes, all_parts, ()))
            # An entry with no crew for each scene but the first one would cover all, were it not for this.
            every = tuple((scene, ()) for scene in all_scenes if not are_odd(scene, ()))
            self.refused(crowd, ("right", all_scenes, all_parts, every))
            self.refused(crowd, ("right", all_scenes, all_parts, every[1:]))

    def test_all_scenes_and_parts_of_the_forms(self):
        program = read("common c\nsort a v\n  open v\n  use v\n  close v\nsort b\n  rest")
        for turns in [1, 2]:
            crowd = Crowd(program, turns=turns)
            all_scenes, all_parts = tuple(scenes(program, turns)), tuple(parts(program, turns))
            made = ("right", all_scenes, all_parts, plain_table(crowd, all_scenes, all_parts))
            self.accepted(crowd, made)

    def test_another_order_and_more_than_is_needed(self):
        draw = random.Random("orders")
        for crowd in self.small_crowds():
            word, *several = self.made(crowd)
            for _ in range(3):
                table = [(scene, tuple(draw.sample(crew, len(crew)))) for scene, crew in several[2]]
                mixed = [draw.sample(items, len(items)) for items in [*several[:2], table]]
                self.accepted(crowd, (word, *map(tuple, mixed)))
                twice = [items + draw.sample(items, len(items)) for items in mixed]
                self.accepted(crowd, (word, *map(tuple, twice)))

    def test_entries_that_are_not_needed(self):
        """An entry may be there if whatever it needs is there, too."""
        draw = random.Random("entries")
        counts = collections.Counter()
        for crowd in self.small_crowds():
            word, all_scenes, all_parts, table = self.made(crowd)
            firsts = firsts_of(crowd)
            several = [part for part in all_parts if part not in firsts]
            for _ in range(12):
                crew = tuple(draw.choices(several, k=draw.randint(0, 3))) if several else ()
                value = (word, all_scenes, all_parts, (*table, (draw.choice(all_scenes), crew)))
                counts[self.judged(crowd, value)] += 1
            for scene, crew in draw.sample(table, min(len(table), 5)):
                more = (*crew, draw.choice(several or [None])) if several else crew
                counts[self.judged(crowd, (word, all_scenes, all_parts, (*table, (scene, more))))] += 1
        self.assertGreater(min(counts[True], counts[False]), 20)

    def test_each_single_thing_left_out(self):
        counts = collections.Counter()
        for crowd in self.small_crowds():
            value = self.made(crowd)
            for place in places(value):
                if len(place) == 2 or (len(place) == 4 and place[0] == 3):
                    counts[(place[0], len(place), self.judged(crowd, without(value, place)))] += 1
        for kind in [(1, 2), (2, 2), (3, 2), (3, 4)]:
            self.assertGreater(counts[(*kind, False)], 10, counts)

    def test_the_first_scene_and_each_first_part(self):
        for crowd in right_crowds():
            word, all_scenes, all_parts, table = paper(crowd)
            first = first_scene_of(crowd)
            rest = tuple(scene for scene in all_scenes if scene != first)
            self.refused(crowd, (word, rest, all_parts, table))
            self.refused(crowd, (word, (), all_parts, table))
            for part in firsts_of(crowd):
                rest = tuple(other for other in all_parts if other != part)
                self.refused(crowd, (word, all_scenes, rest, table))
        rest = Crowd(Program.lone(Sort("a", [("rest",)])))
        first, parted = ("none", (), ()), ((0, 0, (), ()), (0, 1, (), ()))
        self.accepted(rest, ("right", (first,), parted, ()))
        self.accepted(rest, ("right", (first, ("meant", (), ())), parted, ()))
        self.refused(rest, ("right", (("meant", (), ()),), parted, ()))
        self.refused(rest, ("right", (first,), parted[1:], ()))
        self.refused(rest, ("right", (first,), parted[:1], ()))

    def test_an_entry_with_the_first_scene_and_no_crew(self):
        for crowd in right_crowds():
            word, all_scenes, all_parts, table = paper(crowd)
            self.refused(crowd, (word, all_scenes, all_parts, (*table, (first_scene_of(crowd), ()))))
            self.refused(crowd, (word, all_scenes, all_parts, ((first_scene_of(crowd), ()), *table)))

    def test_entries_whose_scene_or_parts_are_not_there(self):
        """What is of the form, but is not among the scenes and parts of the paper."""
        crowd = Crowd(Program.lone(Sort("a", [("rest",)], own=["v"])))
        first, meant, late = [(status, (), ()) for status in ["none", "meant", "late.0"]]
        parted = ((0, 0, ("-",), ()), (0, 1, ("-",), ()))
        marked = (0, 1, ("x",), ())
        value = ("right", (first, meant), parted, ((meant, ()),))
        self.accepted(crowd, value)
        self.refused(crowd, changed(value, (3, 0, 0), late))
        self.refused(crowd, changed(value, (3, 0), (meant, (marked,))))
        self.refused(crowd, changed(value, (3,), ((meant, ()), (meant, (marked,)))))
        self.accepted(crowd, ("right", (first, meant), (*parted, marked), ((meant, ()), (meant, (marked,)))))
        self.accepted(crowd, ("right", (first, meant, late), parted, ((meant, ()), (late, ()))))

    def test_first_parts_in_crews(self):
        crowd = Crowd(Program.lone(Sort("a", [("rest",)])))
        first, meant = ("none", (), ()), ("meant", (), ())
        parted = ((0, 0, (), ()), (0, 1, (), ()))
        self.refused(crowd, ("right", (first, meant), parted, ((meant, ()), (meant, (parted[0],)))))
        self.refused(crowd, ("right", (first, meant), parted, ((meant, ()), (meant, (parted[1], parted[0])))))
        self.accepted(crowd, ("right", (first, meant), parted, ((meant, ()), (meant, (parted[1], parted[1])))))

    def test_entries_at_odds(self):
        crowd = Crowd(LOCKED)
        word, all_scenes, all_parts, table = paper(crowd)
        holding = [part for part in all_parts if part[3] == (True,)]
        idle = [part for part in all_parts if part[3] == (False,) and part not in firsts_of(crowd)]
        refused = 0
        for scene in all_scenes:
            for crew in [(), *[(part,) for part in all_parts], (holding[0], holding[1]), (holding[0], holding[0])]:
                if are_odd(scene, crew):
                    self.refused(crowd, (word, all_scenes, all_parts, (*table, (scene, crew))))
                    refused += 1
        self.assertGreater(refused, 50)
        self.assertGreater(len(idle), 0)

    def test_scenes_and_parts_of_no_form(self):
        program = LOCKED
        crowd = Crowd(program, turns=2)
        word, all_scenes, all_parts, table = paper(crowd)
        for scene in [("early.2", ("-",), (False,)), ("late", ("-",), (False,)), ("None", ("-",), (False,)),
                      ("free.00", ("-",), (False,)), ("", ("-",), (False,)), ("meant", ("o.2",), (False,)),
                      ("meant", ("o",), (False,)), ("meant", ("",), (False,)), ("meant", (), (False,)),
                      ("meant", ("-", "-"), (False,)), ("meant", ("-",), ()), ("meant", ("-",), (False, False)),
                      ("meant", ("-",)), ("meant", ("-",), (False,), ()), ("meant.0", ("-",), (False,)),
                      ("none.0", ("-",), (False,)), ("meant", "-", (False,)), ("meant", ("-",), (None,)),
                      ("free.-1", ("-",), (False,)), ("late.0 ", ("-",), (False,))]:
            self.refused(crowd, (word, (*all_scenes, scene), all_parts, table))
            self.refused(crowd, (word, all_scenes, all_parts, (*table, (scene, ()))))
        for part in [(2, 0, (), (False,)), (-1, 0, (), (False,)), (0, 5, (), (False,)), (0, -1, (), (False,)),
                     (0, 0, ("-",), (False,)), (1, 0, (), (False,)), (1, 0, ("-", "-"), (False,)),
                     (1, 0, ("o.2",), (False,)), (1, 0, ("y",), (False,)), (0, 0, (), ()), (0, 0, (), (True, False)),
                     (0, 0, ()), (0, 0, (), (False,), ()), (0, 0, (), (0,)), (0, False, (), (False,)),
                     (True, 0, ("-",), (False,)), (1, 0, "-", (False,)), (1, 0, (None,), (False,)),
                     ("a", 0, (), (False,)), (0, 10 ** 40, (), (False,))]:
            self.refused(crowd, (word, all_scenes, (*all_parts, part), table))
            self.refused(crowd, (word, all_scenes, all_parts, (*table, (("meant", ("-",), (True,)), (part,)))))

    def test_all_statuses_and_marks_can_stand_in_a_paper(self):
        for turns in TURNS:
            crowd = Crowd(read("common c\nsort a v\n  rest"), turns=turns)
            found = plain_reached(crowd.program, turns)
            all_scenes = [(status, (mark,), ()) for status in statuses(turns) for mark in marks(turns)]
            all_parts = [(0, row, (mark,), ()) for row in range(2) for mark in marks(turns)]
            self.accepted(crowd, ("right", tuple(all_scenes), tuple(all_parts), ()))
            self.accepted(crowd, ("right", tuple(found[0]), tuple(found[1]), ()))
            self.refused(Crowd(crowd.program, turns=turns - 1) if turns > 1 else Crowd(PAIR),
                         ("right", tuple(all_scenes), tuple(all_parts), ()))

    def test_a_part_that_has_ended_may_be_in_a_crew(self):
        crowd = Crowd(Program.lone(Sort("a", [("rest",)])))
        first, meant = ("none", (), ()), ("meant", (), ())
        parted = ((0, 0, (), ()), (0, 1, (), ()))
        # Moves lead to it in this scene without anybody else, so the entry needs one that is not allowed.
        self.refused(crowd, ("right", (first,), parted, ((first, (parted[1],)),)))
        self.accepted(crowd, ("right", (first, meant), parted, ((meant, (parted[1],)), (meant, ()))))
        self.refused(crowd, ("right", (first, meant), parted, ((meant, (parted[1],)),)))


class TestWrong(PaperCase):
    RUN = ((0, 0), (0, 0), (1, 0), (2, 0), (1, 0))
    HANDS = ("giver", "user", "giver")

    def value(self, hands=HANDS, size=1, run=RUN):
        return ("wrong", hands, size, run)

    def test_what_is_a_paper(self):
        crowd = Crowd(PAIR)
        self.accepted(crowd, self.value())
        self.accepted(crowd, self.value(size=60))
        self.accepted(crowd, self.value(hands=(*self.HANDS, *["user"] * 27)))
        self.accepted(crowd, self.value(hands=("user", "giver", "giver"),
                                        run=((1, 0), (1, 0), (0, 0), (2, 0), (0, 0))))
        longer = ((0, 1), (0, 0), (1, 0), (2, 0), (2, 0), (3, 0), (4, 0), (3, 0), (5, 1), (1, 0))
        self.accepted(crowd, self.value(hands=(*self.HANDS, "giver", "user", "giver"), size=2, run=longer))

    def test_hands(self):
        crowd = Crowd(PAIR)
        for hands in [(), (*self.HANDS, *["user"] * 28), (*self.HANDS, "other"), (*self.HANDS, ""), ("user",) * 3,
                      ("giver", "user"), (*self.HANDS, None), (*self.HANDS, 0), (*self.HANDS, b"user"), "giver",
                      list(self.HANDS), (*self.HANDS, ("user",)), (*self.HANDS, Stubborn()), None, 3, PAIR,
                      (*self.HANDS, ["user"]), (*self.HANDS, "common"), (*self.HANDS, "c")]:
            self.refused(crowd, self.value(hands=hands))

    def test_sizes(self):
        crowd = Crowd(PAIR)
        for size in [0, -1, 61, 10 ** 40, True, False, None, "1", (1,), [1], Stubborn(), b"1", 1 << 70]:
            self.refused(crowd, self.value(size=size))
        for size in range(1, 61):
            self.accepted(crowd, self.value(size=size))

    def test_runs(self):
        crowd = Crowd(PAIR)
        run = self.RUN
        for told in [(), run[:-1], (*run, (1, 0)), (*run, (0, 0)), run[1:], list(run), (*run[:-1], [1, 0]),
                     (*run[:-1], (1, 1)), (*run[:-1], (1,)), (*run[:-1], (1, 0, 0)), (*run[:-1], (True, 0)),
                     (*run[:-1], (1, False)), (*run[:-1], (3, 0)), (*run[:-1], (-2, 0)), (*run[:-1], None),
                     ((0, 1), *run[1:]), run[::-1], "run", None, 5, (*run[:-1], "10"), (*run[:-1], Stubborn()),
                     (Stubborn(), *run[1:]), ((0, 0), (False, 0), *run[2:]), ((0, 0), (0, 0), (0, 0), *run[2:]),
                     (*run[:-1], (1, None)), (*run[:-1], (Stubborn(), 0)), (*run[:-1], (1, Stubborn())), Stubborn()]:
            self.refused(crowd, self.value(run=told))
        self.refused(crowd, self.value(size=2, run=((0, 0), (0, 0), (1, 0), (2, 1), (1, 0))))

    def test_a_fault_too_early(self):
        run = ((0, 0), (1, 0), (0, 0), (2, 0), (1, 0))
        self.accepted(Crowd(PAIR), self.value(run=run))
        self.refused(Crowd(PAIR), self.value(run=(*run, (3, 0)), hands=(*self.HANDS, "user")))
        self.refused(Crowd(PAIR), self.value(run=(*run, (1, 0))))

    def test_refused_deeds_are_no_faults(self):
        run = ((0, 0), (0, 0), (1, 0), (1, 0))
        self.refused(Crowd(PAIR), self.value(run=run))

    def test_right_crowds_have_none(self):
        crowd = Crowd(LOCKED)
        for hands in [("a", "b", "a"), ("a", "a"), ("b",)]:
            for run in [((0, 0),), ((0, 0),) * 4, ((1, 0), (0, 0))]:
                self.refused(crowd, self.value(hands=hands, run=run))


class TestAnyValue(PaperCase):
    def papers(self):
        """Some papers, not too great ones."""
        program = read("common c\nlocks k\nsort a v\n  lock k\n  open v\n  use v\n  unlock k")
        small = Crowd(program)
        rest = Crowd(Program.lone(Sort("a", [("rest",)])))
        both = ("right", (("none", (), ()), ("meant", (), ())), ((0, 0, (), ()), (0, 1, (), ())),
                ((("meant", (), ()), ()), (("meant", (), ()), ((0, 1, (), ()),))))
        return [(small, paper(small)), (rest, both), (Crowd(PAIR), paper(Crowd(PAIR))),
                (Crowd(PAIR, turns=2), paper(Crowd(PAIR, turns=2)))]

    def test_the_papers_are_papers(self):
        for crowd, value in self.papers():
            self.accepted(crowd, value)

    def test_lists_for_tuples(self):
        for crowd, value in self.papers():
            for place in places(value):
                item = item_at(value, place)
                if isinstance(item, tuple):
                    self.refused(crowd, changed(value, place, list(item)))

    def test_truth_values_and_integers(self):
        for crowd, value in self.papers():
            many = 0
            for place in places(value):
                item = item_at(value, place)
                if isinstance(item, bool):
                    self.refused(crowd, changed(value, place, int(item)))
                elif isinstance(item, int) and item < 2:
                    self.refused(crowd, changed(value, place, bool(item)))
                many += isinstance(item, int)
            self.assertGreater(many, 1)

    def test_objects_of_other_kinds_in_each_place(self):
        for crowd, value in self.papers():
            for place in places(value):
                for item in others():
                    if not isinstance(item, (tuple, bool)):
                        self.refused(crowd, changed(value, place, item))

    def test_items_too_many_or_too_few(self):
        for crowd, value in self.papers():
            right = value[0] == "right"
            for place in places(value):
                item = item_at(value, place)
                # The number of items is given but where a tuple lists scenes, parts, entries, hands or steps.
                listed = len(place) == 1 or (right and len(place) == 3 and place[0] == 3 and place[2] == 1)
                if isinstance(item, tuple) and not listed:
                    self.refused(crowd, changed(value, place, (*item, item[0] if item else "-")))
                    self.refused(crowd, changed(value, place, item[:-1]) if item else None)

    def test_other_words(self):
        for crowd, value in self.papers():
            for word in ["", "Right", "right ", "wrongs", "accepted", "right\n"]:
                self.refused(crowd, (word, *value[1:]))
            other = {"right": "wrong", "wrong": "right"}[value[0]]
            self.refused(crowd, (other, *value[1:]))
            for place in places(value):
                if isinstance(item_at(value, place), str):
                    for word in ["", "y", "--", "None", "NONE", "giverr", "late", "o"]:
                        self.refused(crowd, changed(value, place, word))

    def test_other_values(self):
        for crowd, _ in self.papers():
            for value in [*others(), "right", "wrong", ("right",), ("wrong",), ("right", (), ()), ("wrong", (), 1),
                          ("right", (), (), (), ()), (None,) * 4, (Stubborn(),) * 4, ("right", *[Stubborn()] * 3),
                          ("wrong", *[Stubborn()] * 3), (["right"], (), (), ()), {"right": 1}, crowd, crowd.program]:
                self.refused(crowd, value)


class TestOtherCrowds(PaperCase):
    def test_a_paper_is_judged_by_the_crowd(self):
        """A paper of one crowd for another one, by that crowd's moves and turns."""
        counts = collections.Counter()
        crowds = [crowd for crowd in right_crowds() if len(paper(crowd)[3]) < 40]
        for crowd, other in itertools.product(crowds, crowds):
            expected = self.is_of_forms(other, paper(crowd)) and is_plain_right(other, *paper(crowd)[1:])
            self.assertIs(accepts(other, paper(crowd)), expected)
            counts[expected] += 1
        self.assertGreater(min(counts[True], counts[False]), 4)

    def is_of_forms(self, crowd, value):
        """Whether all scenes and parts are of the forms of a crowd; truth values are told apart by how they look."""
        every = [repr(item) for item in [*scenes(crowd.program, crowd.turns), *parts(crowd.program, crowd.turns)]]
        return all(repr(item) in every for item in [*value[1], *value[2]])

    def test_other_turns(self):
        for turns, other in itertools.permutations(TURNS, 2):
            value = paper(Crowd(PAIR, turns=turns))
            # The number that is used has had as many more entries as there are turns.
            self.assertIs(accepts(Crowd(PAIR, turns=other), value), turns % other == 0)

    def test_a_program_in_which_one_row_differs(self):
        right = read("locks k\nsort a v w\n  lock k\n  open v\n  set w v\n  renew v\n  close w\n  unlock k")
        wrong = read("locks k\nsort a v w\n  lock k\n  open v\n  set w v\n  renew v\n  renew v\n  close w")
        self.accepted(Crowd(right, turns=2), paper(Crowd(right, turns=2)))
        self.refused(Crowd(wrong, turns=2), paper(Crowd(right, turns=2)))
        self.refused(Crowd(right, turns=2), paper(Crowd(wrong, turns=2)))
        self.refused(Crowd(right, turns=1), paper(Crowd(right, turns=2)))

    def test_other_names(self):
        one = read("common c\nsort giver\n  open c\n  close c\nsort user w\n  set w c\n  use w")
        self.accepted(Crowd(one), paper(Crowd(PAIR)))
        other = read("common c\nsort give\n  open c\n  close c\nsort use w\n  set w c\n  use w")
        self.refused(Crowd(other), paper(Crowd(PAIR)))


if __name__ == "__main__":
    unittest.main()
