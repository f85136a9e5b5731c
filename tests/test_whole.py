"""The whole program: what its parts have to say together, and arguments by name."""

import itertools
import random
import unittest

from helpers import Case, PlainPlay, all_programs, mixed_programs, programs, small_benches

from handlesagain import errors
from handlesagain.benches import Bench
from handlesagain.changes import edited, is_cure, least_changes
from handlesagain.console import Console
from handlesagain.crowds import Crowd
from handlesagain.errors import InvalidNumber, TooMany
from handlesagain.handles import Handle
from handlesagain.notes import Notes
from handlesagain.papers import accepts, paper
from handlesagain.plays import Play
from handlesagain.programs import Program, Sort, is_row
from handlesagain.searches import faulty_rows, is_safe, runs, shortest_fault, shortest_stuck
from handlesagain.sessions import Session, Trials, together
from handlesagain.systems import Harm, compared, hides, turns_needed
from handlesagain.tables import BOOKS, Table
from handlesagain.texts import read, write
from handlesagain.verdicts import is_right, least_turns, shortest_length
from handlesagain.witnesses import witness

PAIR = Program.pair()
HANDS = ("giver", "giver", "user")
BENCH = Bench(PAIR, *HANDS)
FAULT = ((0, 0), (0, 0), (2, 0), (1, 0), (2, 0))


def renamed(program, names):
    """The program with other names of sorts, variables and locks."""
    words = ("open", "close", "renew", "use", "set", "drop", "lock", "unlock", "rest")
    sorts = []
    for sort in program.sorts:
        rows = [row if row[0] == "go" else (row[0], *[names[name] for name in row[1:]]) for row in sort.rows]
        assert all(row[0] == "go" or row[0] in words for row in rows)
        sorts.append(Sort(names[sort.name], rows, own=[names[name] for name in sort.own]))
    return Program(*sorts, common=[names[name] for name in program.common],
                   locks=[names[name] for name in program.locks])


def other_names(program):
    """Other names for all of a program, in another order of the alphabet."""
    found = [sort.name for sort in program.sorts] + [*program.common, *program.locks]
    for sort in program.sorts:
        found.extend(sort.own)
    unlike = list(dict.fromkeys(found))
    return {name: f"{'zyxwvutsrq'[at]}name" for at, name in enumerate(unlike)}


def some_benches(seed, many):
    draw = random.Random(seed)
    for program in [*programs(), *mixed_programs(many, seed)]:
        names = [sort.name for sort in program.sorts]
        yield Bench(program, *draw.choices(names, k=draw.randint(1, 3)), size=draw.randint(1, 3),
                    book=draw.choice(BOOKS), turns=draw.randint(1, 3))


class TestOneRunInManyWays(unittest.TestCase):
    def drawn_run(self, draw, bench):
        """A run that is drawn, with its words, by a plain bench."""
        play, run, words = PlainPlay(bench), [], []
        while len(run) < 14 and play.steps():
            run.append(draw.choice(play.steps()))
            words.append(play.step(*run[-1]))
        return run, tuple(words)

    def test_the_same_words(self):
        draw = random.Random("ways")
        for bench in some_benches("ways", 60):
            run, words = self.drawn_run(draw, bench)
            at = draw.randint(0, len(run))
            play = Play(bench)
            self.assertEqual(bench(run), words)
            self.assertEqual(tuple(play.step(*step) for step in run[:at]), words[:at])
            copy = play.copied()
            for other in [play, copy, copy.copied()]:
                self.assertEqual(tuple(other.step(*step) for step in run[at:]), words[at:])
                self.assertEqual((other.made, other.words), (tuple(run), words))
            stepping, going, parts = [Session(bench) for _ in range(3)]
            self.assertEqual(tuple(stepping.step(*step) for step in run), words)
            self.assertEqual(going.go(run), words)
            self.assertEqual(parts.go(run[:at]) + parts.played().copied().words[:0] + parts.go(run[at:]), words)
            self.assertEqual(Session(bench).attempt([("go", run[:at]), *[("step", step) for step in run[at:]]]),
                             (words[:at], *words[at:]))
            self.assertEqual(together([Session(bench)], [(0, "go", run)]), (words,))
            for session in [stepping, going, parts]:
                self.assertEqual((session.made, session.words), (tuple(run), words))
                self.assertEqual(session.played().words, words)

    def test_at_the_console(self):
        draw = random.Random("lines")
        for bench in some_benches("lines", 20):
            run, words = self.drawn_run(draw, bench)
            console = Console()
            console.run("load " + write(bench.program).replace("\n", "; "))
            console.run(f"bench {bench.size} {bench.book} {bench.turns} {' '.join(bench.hands)}")
            self.assertEqual(tuple(console.run(f"step {hand} {choice}") for hand, choice in run), words)
            self.assertEqual(console.run("words"), " ".join(words) or "-")

    def test_runs_that_are_told_are_runs(self):
        for bench in some_benches("told", 60):
            try:
                fault, stuck, harm = shortest_fault(bench), shortest_stuck(bench), Harm(bench)
            except TooMany:
                continue
            if fault is not None:
                self.assertEqual(bench(fault).index("fault"), len(fault) - 1)
            if stuck is not None:
                self.assertNotIn("fault", bench(stuck))
            self.assertEqual((harm.length is None, is_safe(bench), faulty_rows(bench) == ()), (fault is None,) * 3)


class TestOneLock(unittest.TestCase):
    """Programs whose sorts are wholly guarded by one lock: hands do all their rows one after the other."""

    def guarded(self):
        for program in [PAIR, *all_programs(), *mixed_programs(80, "guarded")]:
            rows = [row for sort in program.sorts for row in sort.rows]
            if any(row[0] in ("lock", "unlock", "go") for row in rows) or max(map(len, program.sorts)) > 8:
                continue
            yield program, edited(program, [("guard", sort.name, 0, len(sort) - 1) for sort in program.sorts])

    def test_no_worse_than_without_the_lock(self):
        many = 0
        for program, behind in self.guarded():
            for turns in [1, 2]:
                try:
                    lengths = [shortest_length(Crowd(other, turns=turns)) for other in [program, behind]]
                except TooMany:
                    continue
                if lengths[0] is None:
                    self.assertIs(lengths[1], None)
                if lengths[1] is not None:
                    self.assertGreater(lengths[1], lengths[0])
                many += 1
        self.assertGreater(many, 60)

    def test_a_pair_that_is_guarded_is_right(self):
        guards = [("guard", "giver", 0, 1), ("guard", "user", 0, 1)]
        for turns in range(1, 5):
            self.assertIs(is_cure(PAIR, guards, turns=turns), True)
        behind = edited(PAIR, guards)
        self.assertIs(witness(Crowd(behind)), None)
        self.assertEqual(paper(Crowd(behind))[0], "right")
        self.assertEqual(least_turns(behind), 1)
        for bench in small_benches(behind, 1, 3):
            self.assertIs(is_safe(bench), True)

    def test_one_hand_behind_the_other(self):
        """A fault comes just if some order of the hands has one, each hand doing all its rows at once."""
        for program, behind in itertools.islice(self.guarded(), 30):
            names = [sort.name for sort in program.sorts]
            for hands in itertools.combinations_with_replacement(names, 2):
                for book in ["least", "next", "last"]:
                    has_fault = any(self.serial(Bench(program, *order, size=2, book=book)) for order in
                                    itertools.permutations(hands))
                    self.assertIs(is_safe(Bench(behind, *hands, size=2, book=book)), not has_fault)

    def serial(self, bench):
        """Whether there is a fault if one hand after the other does all its rows."""
        run = [(hand, 0) for hand, name in enumerate(bench.hands) for _ in range(len(bench.program[name]))]
        play = Play(bench)
        for hand, choice in run:
            if play.step(hand, choice) == "fault":
                return True
        return False


class TestNothingEnds(unittest.TestCase):
    """Programs without closings and renewals: no number leads to another thing ever."""

    def harmless(self):
        for program in [*all_programs(), *mixed_programs(60, "harmless")]:
            edits = [("skip", sort.name, at) for sort in program.sorts for at, row in enumerate(sort.rows)
                     if row[0] in ("close", "renew")]
            yield edited(program, edits)

    def test_they_are_right(self):
        for program in self.harmless():
            for turns in [1, 3]:
                crowd = Crowd(program, turns=turns)
                self.assertIs(is_right(crowd), True)
                self.assertIs(shortest_length(crowd), None)
                self.assertIs(witness(crowd), None)
                told = paper(crowd)
                self.assertEqual((told[0], accepts(crowd, told)), ("right", True))
            self.assertEqual(least_turns(program), 1)
            self.assertEqual(least_changes(program, [("skip", program.sorts[0].name, 0)]), [()])

    def test_their_benches_are_safe(self):
        for program in self.harmless():
            hands = [sort.name for sort in program.sorts]
            self.assertEqual(compared(program, *hands, size=1), dict.fromkeys(BOOKS))
            self.assertEqual(hides(program, *hands, size=1), ())
            bench = Bench(program, *hands, size=2)
            self.assertEqual((is_safe(bench), turns_needed(bench), bool(Harm(bench))), (True, 1, False))


class TestOtherHands(unittest.TestCase):
    def length(self, *args, **more):
        try:
            run = shortest_fault(Bench(*args, **more))
        except TooMany:
            return None
        return 1000 if run is None else len(run)

    def test_more_hands_do_no_good(self):
        """Those that are there may do without the others, where each opening can get any free number."""
        for program in all_programs():
            names = [sort.name for sort in program.sorts]
            for hands in itertools.combinations_with_replacement(names, 2):
                length = self.length(program, *hands, size=2)
                for more in names:
                    self.assertLessEqual(self.length(program, *hands, more, size=2) or 0, length)

    def test_another_order_of_hands(self):
        for bench in some_benches("order", 60):
            lengths, rows = [], []
            for hands in itertools.permutations(bench.hands):
                other = Bench(bench.program, *hands, size=bench.size, book=bench.book, turns=bench.turns)
                lengths.append(self.length(bench.program, *hands, size=bench.size, book=bench.book, turns=bench.turns))
                rows.append(faulty_rows(other))
            self.assertEqual((len(set(lengths)), len(set(rows))), (1, 1))

    def test_another_order_of_sorts(self):
        for program in [*all_programs(), *mixed_programs(40, "sorts")]:
            turned = Program(*program.sorts[::-1], common=program.common, locks=program.locks)
            for turns in [1, 2]:
                try:
                    length = shortest_length(Crowd(program, turns=turns))
                    self.assertEqual(shortest_length(Crowd(turned, turns=turns)), length)
                except TooMany as error:
                    self.assertEqual(error.limit, 1000)

    def test_other_names(self):
        for program in [*all_programs(), *mixed_programs(40, "names")]:
            names = other_names(program)
            other = renamed(program, names)
            self.assertEqual(read(write(other)), other)
            for turns in [1, 2]:
                one, two = Crowd(program, turns=turns), Crowd(other, turns=turns)
                self.assertNotEqual(one, two)
                self.assertEqual(one.reached(), two.reached())
                try:
                    told = paper(one)
                except TooMany:
                    continue
                self.assertEqual(shortest_length(one), shortest_length(two))
                if told[0] == "wrong":
                    told = ("wrong", tuple(names[hand] for hand in told[1]), *told[2:])
                self.assertEqual(paper(two), told)
                self.assertIs(accepts(two, told), True)

    def test_other_names_on_benches(self):
        for bench in some_benches("benches", 60):
            names = other_names(bench.program)
            hands = [names[hand] for hand in bench.hands]
            other = Bench(renamed(bench.program, names), *hands, size=bench.size, book=bench.book, turns=bench.turns)
            for call in [shortest_fault, faulty_rows, shortest_stuck, turns_needed]:
                self.assertEqual(call(other), call(bench))
            self.assertEqual(list(runs(other, 3)), list(runs(bench, 3)))
            self.assertEqual(Harm(other), Harm(bench))


class TestGuarantees(unittest.TestCase):
    def test_right_crowds_have_right_benches(self):
        """Under every book, also with turns that are a multiple of theirs."""
        many = 0
        for program in [*all_programs()[::2], *mixed_programs(30, "guarantees")]:
            for turns, more in [(1, 1), (1, 2), (1, 3), (2, 4)]:
                try:
                    right = is_right(Crowd(program, turns=turns))
                except TooMany:
                    continue
                if right:
                    for bench in small_benches(program, more, 2):
                        self.assertIs(is_safe(bench), True)
                        many += 1
        self.assertGreater(many, 1000)

    def test_a_witness_is_a_fault_of_its_bench(self):
        for program in all_programs():
            crowd = Crowd(program)
            told = witness(crowd)
            if told is not None:
                bench, run = told
                self.assertEqual((bench(run)[-1], len(run)), ("fault", shortest_length(crowd)))
                if len(run) < 9:
                    self.assertEqual(len(shortest_fault(bench)), len(run))
                    hands = bench.hands
                    self.assertEqual(compared(program, *hands, size=bench.size)["any"], len(run))

    def outcome(self, call, value):
        """What a call returns, or the limit of its error."""
        try:
            return call(value)
        except TooMany as error:
            return error.limit

    def test_calls_with_equal_arguments(self):
        for program in all_programs()[::3]:
            other = read(write(program))
            for call in [write, least_turns]:
                self.assertEqual(self.outcome(call, program), self.outcome(call, other))
            for call in [is_right, shortest_length, witness, paper, Crowd.reached]:
                self.assertEqual(call(Crowd(program)), call(Crowd(other)))
            names = [sort.name for sort in program.sorts]
            for call in [shortest_fault, is_safe, faulty_rows, shortest_stuck, turns_needed, Harm]:
                self.assertEqual(call(Bench(program, *names, size=2)), call(Bench(other, *names, size=2)))


class TestNames(Case):
    """Arguments by the names in the document, in another order."""

    def test_programs_and_texts(self):
        sort = Sort(own=["v"], rows=[("open", "v")], name="a")
        self.assertEqual(sort, Sort("a", [("open", "v")], own=["v"]))
        self.assertEqual(sort.changed(row=("use", "v"), at=0), Sort("a", [("use", "v")], own=["v"]))
        self.assertEqual(Program(sort, locks=["k"], common=["c"]), Program(sort, common=["c"], locks=["k"]))
        self.assertEqual(Program.lone(sort=sort), Program(sort))
        self.assertIs(is_row(value=("rest",)), True)
        self.assertEqual(read(text=write(program=PAIR)), PAIR)

    def test_tables_and_handles(self):
        self.assertEqual(Handle(entry=2, turn=1, number=3).entry, 2)
        table = Table(turns=2, book="any", size=5)
        self.assertEqual((table.size, table.book, table.turns), (5, "any", 2))
        handle = table.give(number=4)
        self.assertEqual(handle.number, 4)
        self.assertEqual(table.use(handle=handle), "done")
        handle = table.renew(handle=handle)
        self.assertEqual(table.close(handle=handle), "done")

    def test_benches_plays_and_searches(self):
        bench = Bench(PAIR, *HANDS, turns=2, book="last", size=3)
        self.assertEqual((bench.size, bench.book, bench.turns), (3, "last", 2))
        self.assertEqual(BENCH(run=FAULT), BENCH(FAULT))
        play = Play(bench=bench)
        self.assertEqual(play.step(choice=0, hand=2), "done")
        self.assertEqual(play.row_of(hand=2), 1)
        self.assertIs(play.own_of(name="v", hand=2), None)
        locked = Bench(Program(PAIR["giver"], common=["c"], locks=["k"]), "giver")
        self.assertIs(Play(locked).is_taken(lock="k"), False)
        self.assertEqual(shortest_fault(bench=BENCH), FAULT)
        self.assertIs(is_safe(bench=BENCH), False)
        self.assertEqual(faulty_rows(bench=BENCH), ((1, 1),))
        self.assertIs(shortest_stuck(bench=BENCH), None)
        self.assertEqual(list(runs(length=0, bench=BENCH)), [()])
        with self.assertRaises(InvalidNumber):
            list(runs(length=13, bench=BENCH))

    def test_crowds_and_what_is_told_of_them(self):
        crowd = Crowd(turns=1, program=PAIR)
        scene, part = crowd.first_scene(), crowd.first_parts()[0]
        self.assertEqual(crowd.moves(part=part, scene=scene), crowd.moves(scene, part))
        self.assertIs(crowd.is_fault(part=part, scene=scene), False)
        self.assertEqual((is_right(crowd=crowd), shortest_length(crowd=crowd)), (False, 5))
        self.assertIs(least_turns(program=PAIR), None)
        self.assertEqual(witness(crowd=crowd), witness(crowd))
        self.assertIs(accepts(value=paper(crowd=crowd), crowd=crowd), True)

    def test_systems_and_changes(self):
        self.assertEqual(compared(PAIR, *HANDS, turns=1, size=1), dict.fromkeys(BOOKS, 5))
        self.assertEqual(hides(PAIR, *HANDS, turns=1, size=1), ())
        self.assertEqual(turns_needed(bench=BENCH), 2)
        self.assertEqual(Harm(bench=BENCH).length, 5)
        edits = [("skip", "giver", 1)]
        self.assertEqual(edited(edits=edits, program=PAIR), edited(PAIR, edits))
        self.assertIs(is_cure(turns=2, edits=edits, program=PAIR), True)
        self.assertEqual(least_changes(turns=2, menu=edits, program=PAIR), [tuple(edits)])

    def test_sessions_and_the_console(self):
        session = Session(bench=BENCH)
        self.assertEqual(session.step(choice=0, hand=0), "done")
        self.assertEqual(session.go(run=FAULT[1:]), BENCH(FAULT)[1:])
        self.assertIs(session.rebench(bench=BENCH), None)
        self.assertEqual(session.attempt(deeds=[("undo", None)]), (None,))
        with Trials() as trials:
            self.assertIs(trials.enter(session=session), session)
        self.assertEqual(together(deeds=[(0, "undo", None)], sessions=[session]), (None,))
        self.assertEqual(Console().run(line="load sort a;   rest"), "ok")
        self.assertEqual(Notes().listed(), ())

    def test_errors(self):
        for name in dir(errors):
            kind = getattr(errors, name)
            if isinstance(kind, type) and issubclass(kind, errors.HandleError):
                self.assertEqual(kind(value=3).value, 3)
        self.assertEqual(TooMany(limit=3).limit, 3)

    def test_what_is_passed_by_name_only(self):
        for call in [lambda: Sort("a", [("rest",)], ()), lambda: Handle(0, 0, 0), lambda: Table(4, "any"),
                     lambda: Crowd(PAIR, 1), lambda: is_cure(PAIR, [], 1), lambda: least_changes(PAIR, [], 1)]:
            with self.assertRaises(TypeError):
                call()


if __name__ == "__main__":
    unittest.main()
