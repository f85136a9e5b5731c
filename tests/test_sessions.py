"""handlesagain/sessions.py."""

import random
import unittest

from helpers import Case, PlainPlay, Stubborn, mixed_programs, others, programs

from handlesagain.benches import Bench
from handlesagain.errors import InvalidCommand, InvalidHands, InvalidStep, NothingToUndo
from handlesagain.plays import Play
from handlesagain.programs import Program
from handlesagain.sessions import Session, Trials, together

PAIR = Program.pair()
BENCH = Bench(PAIR, "giver", "giver", "user")
OTHER = Bench(PAIR, "giver", "user", size=1)

# Runs on the bench, the last one with a fault.
RUN = [(0, 0), (0, 0), (2, 0), (1, 0)]
FAULT = [*RUN, (2, 0)]


class Stop(Exception):
    """An error that is none of the package."""


def begun(bench=BENCH, run=()):
    session = Session(bench)
    for step in run:
        session.step(*step)
    return session


def told(session):
    """All that a session tells."""
    play = session.played()
    return session.bench, session.made, session.words, play.made, list(play.steps()), play.fault


def undoings(session):
    """What a session tells behind each of its undoings; nothing is left to undo then."""
    found = [told(session)]
    while True:
        try:
            session.undo()
        except NothingToUndo:
            return found
        found.append(told(session))


def put_bench(session, value):
    session.bench = value


class PlainSession:
    """A session as a list of all states: each one is a bench and the steps that were made."""

    def __init__(self, bench):
        self.states = [(bench, ())]

    def play(self):
        bench, made = self.states[-1]
        play = PlainPlay(bench)
        return play, tuple(play.step(*step) for step in made)

    def words(self):
        return self.play()[1]

    def go(self, run):
        """Make all steps of a run; return their words, or None if one cannot be made."""
        bench, made = self.states[-1]
        play, words = self.play()[0], []
        for step in run:
            if step not in play.steps():
                return None
            words.append(play.step(*step))
        self.states.append((bench, (*made, *run)))
        return tuple(words)

    def rebench(self, bench):
        self.states.append((bench, ()))

    def undo(self):
        if len(self.states) == 1:
            return False
        self.states.pop()
        return True


class SessionCase(Case):
    def same(self, session, plain):
        bench, made = plain.states[-1]
        self.assertIs(session.bench, bench)
        self.assertEqual(session.made, made)
        self.assertEqual(session.words, plain.words())
        play = session.played()
        self.assertIs(type(play), Play)
        self.assertIs(play.bench, bench)
        self.assertEqual((play.made, play.words), (session.made, session.words))
        self.assertEqual(list(play.steps()), plain.play()[0].steps())

    def same_back(self, session, plain):
        """The session is as the plain one, all that can be undone included; the undoings are made."""
        while True:
            self.same(session, plain)
            if not plain.undo():
                break
            self.assertIs(session.undo(), None)
        self.assertEqual(self.error_of(NothingToUndo, session.undo).args, ())
        self.same(session, plain)

    def unchanged(self, session, before):
        """The session tells what it told, also behind each of its undoings."""
        self.assertEqual(undoings(session), before)


class TestExample(unittest.TestCase):
    def test_the_example_of_the_document(self):
        session = Session(Bench(Program.pair(), "giver", "giver", "user"))
        values = [session.go([(0, 0), (0, 0), (2, 0)]), session.attempt([("step", (1, 0)), ("undo", None)])]
        self.assertEqual([values, session.words, session.undo(), session.made],
                         [[("done", "done", "done"), ("done", None)], ("done", "done", "done"), None, ()])


class TestSession(SessionCase):
    def test_a_new_session(self):
        session = Session(bench=BENCH)
        self.assertIs(session.bench, BENCH)
        self.assertEqual((session.made, session.words), ((), ()))
        self.error_of(NothingToUndo, session.undo)

    def test_what_is_no_bench(self):
        session = begun(run=RUN)
        for value in [*others(), PAIR, session, Play(BENCH)]:
            self.refused(InvalidHands, value, Session, value)
            self.refused(InvalidHands, value, session.rebench, value)
            self.refused(InvalidHands, value, put_bench, session, value)
        self.unchanged(session, undoings(begun(run=RUN)))

    def test_step(self):
        session, play = Session(BENCH), Play(BENCH)
        for hand, choice in FAULT:
            word = session.step(hand, choice) if choice else session.step(hand)
            self.assertEqual(word, play.step(hand, choice))
            self.assertEqual((session.made, session.words), (play.made, play.words))
        self.assertEqual(session.words[-1], "fault")
        self.assertEqual(session.played().fault, play.fault)
        self.refused_like(InvalidStep, (0, 0), session.step, 0)

    def test_step_by_name(self):
        session = begun()
        self.assertEqual(session.step(choice=3, hand=1), "done")
        self.assertEqual(session.step(hand=0), "done")
        self.assertEqual(session.made, ((1, 3), (0, 0)))

    def test_a_step_that_cannot_be_made(self):
        session = begun(run=RUN)
        before = undoings(begun(run=RUN))
        for hand, choice in [(0, 0), (3, 0), (2, 1), (-1, 0), (True, 0), (2, False), (2, None), (None, 0)]:
            self.refused_like(InvalidStep, (hand, choice), session.step, hand, choice)
        for value in others():
            if type(value) is not int:
                self.assertIs(self.error_of(InvalidStep, session.step, value).value[0], value)
                self.assertIs(self.error_of(InvalidStep, session.step, 2, value).value[1], value)
        self.unchanged(session, before)

    def test_go(self):
        for run in [FAULT, tuple(FAULT), FAULT[:1], [], ()]:
            session = Session(BENCH)
            self.assertEqual(session.go(run), BENCH(run))
            self.assertEqual((session.made, session.words), (tuple(run), BENCH(run)))
            session.undo()
            self.assertEqual((session.made, session.words), ((), ()))
            self.error_of(NothingToUndo, session.undo)

    def test_go_in_parts(self):
        for at in range(len(FAULT) + 1):
            session = Session(BENCH)
            self.assertEqual(session.go(run=FAULT[:at]) + session.go(FAULT[at:]), BENCH(FAULT))
            session.undo()
            self.assertEqual(session.made, tuple(FAULT[:at]))

    def test_go_with_what_is_no_run(self):
        session = begun(run=RUN[:2])
        for value in [*others(), "00", {(2, 0): 1}, iter([(2, 0)]), 3]:
            if not isinstance(value, (list, tuple)):
                self.refused(InvalidStep, value, session.go, value)
        self.unchanged(session, undoings(begun(run=RUN[:2])))

    def test_go_with_a_step_in_the_middle_that_cannot_be_made(self):
        session = begun(run=RUN[:2])
        steps = [(0, 0), (3, 0), (2, 1), (1, 4), (True, 0), (2, False), (2,), (2, 0, 0), [2, 0], "20", None,
                 (2, Stubborn()), Stubborn(), (Stubborn(), 0), (-1, 0)]
        for step in steps:
            for run in [[step], [(2, 0), step, (1, 0)], ((1, 0), (2, 0), step), [(2, 0), step, (9, 9)]]:
                self.refused(InvalidStep, step, session.go, run)
        self.refused_like(InvalidStep, (0, 0), session.go, [(2, 0), (1, 0), (2, 0), (0, 0)])
        self.unchanged(session, undoings(begun(run=RUN[:2])))

    def test_a_run_that_is_changed_later(self):
        session, run = Session(BENCH), list(RUN)
        session.go(run)
        run.clear()
        self.assertEqual(session.made, tuple(RUN))

    def test_played_is_a_copy(self):
        session = begun(run=RUN)
        play = session.played()
        play.step(2)
        self.assertEqual((session.made, len(session.words)), (tuple(RUN), 4))
        self.assertEqual(session.played().made, tuple(RUN))
        session.undo()
        self.assertEqual(play.words[-1], "fault")
        session.step(1, 1)
        self.assertEqual(session.words[-1], "done")
        self.assertEqual(session.played().row_of(1), 1)

    def test_rebench_and_assigning(self):
        for call in [Session.rebench, put_bench]:
            session = begun(run=RUN)
            self.assertIs(call(session, OTHER), None)
            self.assertIs(session.bench, OTHER)
            self.assertEqual((session.made, session.words), ((), ()))
            self.assertEqual(session.step(1), "done")
            session.undo()
            session.undo()
            self.assertIs(session.bench, BENCH)
            self.assertEqual(session.made, tuple(RUN))
        self.assertIs(begun().rebench(bench=OTHER), None)

    def test_the_same_bench_again(self):
        session = begun(run=RUN)
        session.bench = BENCH
        self.assertEqual(session.made, ())
        session.undo()
        self.assertEqual(session.made, tuple(RUN))

    def test_undo_behind_the_beginning(self):
        session = begun(run=RUN)
        for _ in RUN:
            self.assertIs(session.undo(), None)
        for _ in range(3):
            self.error_of(NothingToUndo, session.undo)
        self.assertEqual((session.bench, session.made), (BENCH, ()))
        self.assertEqual(session.step(0), "done")
        session.undo()
        self.error_of(NothingToUndo, session.undo)

    def test_undo_behind_a_fault(self):
        session = begun(run=FAULT)
        session.undo()
        self.assertEqual(session.played().fault, None)
        self.assertEqual(session.step(2), "fault")

    def test_other_properties_cannot_be_assigned(self):
        session = begun()
        for name in ["made", "words"]:
            with self.assertRaises(AttributeError):
                setattr(session, name, ())

    def test_two_sessions_of_one_bench(self):
        one, other = Session(BENCH), Session(BENCH)
        one.go(RUN)
        self.assertEqual(other.made, ())
        other.step(1, 2)
        self.assertEqual((one.made, other.made), (tuple(RUN), ((1, 2),)))

    def test_a_long_session(self):
        bench = Bench(Program.pair().lone(PAIR["giver"].changed(1, ("go", 0)).changed(0, ("rest",))), "giver")
        session = Session(bench)
        for _ in range(3000):
            session.step(0)
        self.assertEqual(session.made, ((0, 0),) * 3000)
        for _ in range(2990):
            session.undo()
        self.assertEqual(session.words, ("done",) * 10)


class TestAgainstStates(SessionCase):
    def benches(self, draw):
        found = []
        for program in [*programs(), *mixed_programs(10, "sessions")]:
            names = [sort.name for sort in program.sorts]
            hands = draw.choices(names, k=draw.randint(1, 3))
            found.append(Bench(program, *hands, size=draw.randint(1, 3), book=draw.choice(["any", "last", "next"]),
                               turns=draw.randint(1, 3)))
        return found

    def test_long_drawn_orders(self):
        draw = random.Random("sessions")
        benches = self.benches(draw)
        for _ in range(25):
            bench = draw.choice(benches)
            session, plain = Session(bench), PlainSession(bench)
            for _ in range(60):
                self.do(draw, session, plain, draw.choice(benches))
                self.same(session, plain)
            self.same_back(session, plain)

    def do(self, draw, session, plain, bench):
        """Something that is drawn; it is done to both."""
        word = draw.choice(["step", "step", "step", "go", "go", "rebench", "assign", "undo", "undo", "wrong"])
        if word == "undo":
            if plain.undo():
                self.assertIs(session.undo(), None)
            else:
                self.error_of(NothingToUndo, session.undo)
        elif word in ("rebench", "assign"):
            (Session.rebench if word == "rebench" else put_bench)(session, bench)
            plain.rebench(bench)
        else:
            run = self.drawn_run(draw, plain, draw.randint(0, 5))
            if word == "step" and run:
                self.assertEqual((session.step(*run[0]),), plain.go(run[:1]))
            elif word == "go":
                self.assertEqual(session.go(run), plain.go(run))
            elif word == "wrong":
                wrong = (len(plain.states[-1][0].hands), 0)
                self.refused(InvalidStep, wrong, session.go, [*run, wrong, *run])

    def drawn_run(self, draw, plain, most):
        play, run = plain.play()[0], []
        while len(run) < most and play.steps():
            run.append(draw.choice(play.steps()))
            play.step(*run[-1])
        return run


class TestAttempt(SessionCase):
    def test_each_word(self):
        session = begun(run=RUN[:2])
        values = session.attempt([("step", (2, 0)), ("go", [(1, 0), (2, 0)]), ("undo", None), ("rebench", OTHER),
                                  ("step", (0, 0)), ("go", ())])
        self.assertEqual(values, ("done", ("done", "fault"), None, None, "done", ()))
        self.assertIs(type(values), tuple)
        self.assertIs(session.bench, OTHER)
        self.assertEqual(session.made, ((0, 0),))

    def test_each_deed_can_be_undone_by_itself(self):
        session, plain = begun(run=RUN[:2]), PlainSession(BENCH)
        for step in RUN[:2]:
            plain.go([step])
        session.attempt([("step", (2, 0)), ("go", [(1, 0)]), ("rebench", OTHER), ("step", (0, 0)), ("undo", 5)])
        plain.go([(2, 0)])
        plain.go([(1, 0)])
        plain.rebench(OTHER)
        self.same_back(session, plain)

    def test_no_deeds(self):
        for deeds in [[], ()]:
            session = begun(run=RUN)
            self.assertEqual(session.attempt(deeds), ())
            self.unchanged(session, undoings(begun(run=RUN)))

    def test_by_name_and_a_tuple_of_deeds(self):
        session = begun()
        self.assertEqual(session.attempt(deeds=(("go", tuple(RUN)), ("undo", ()))), (BENCH(RUN), None))

    def test_undoing_behind_the_beginning_of_the_attempt(self):
        session = begun(run=RUN)
        self.assertEqual(session.attempt([("step", (1, 0)), *[("undo", None)] * 3]), ("done", None, None, None))
        self.assertEqual(session.made, tuple(RUN[:2]))
        session.undo()
        session.undo()
        self.error_of(NothingToUndo, session.undo)

    def test_the_argument_of_undo_can_be_any_object(self):
        for value in others():
            session = begun(run=RUN)
            self.assertEqual(session.attempt([("undo", value)]), (None,))
            self.assertEqual(session.made, tuple(RUN[:3]))

    def test_an_error_at_each_place_and_of_each_kind(self):
        good = [("step", (1, 0)), ("undo", None), ("undo", None), ("undo", None), ("go", [(2, 0)]), ("rebench", OTHER)]
        step = (0, Stubborn())
        wrong = [(("step", (0, 5)), InvalidStep), (("step", None), InvalidStep), (("step", [0, 0]), InvalidStep),
                 (("go", None), InvalidStep), (("go", [(0, 7)]), InvalidStep), (("go", [(0, 0)] * 9), InvalidStep),
                 (("rebench", None), InvalidHands), (("step", step), InvalidStep)]
        before = undoings(begun(run=RUN))
        for deed, kind in wrong:
            for at in range(len(good) + 1):
                session = begun(run=RUN)
                self.error_of(kind, session.attempt, [*good[:at], deed, *good[at:]])
                self.unchanged(session, before)
        for at in range(5, 9):
            session = begun(run=RUN)
            self.error_of(NothingToUndo, session.attempt, [("undo", None)] * at)
            self.unchanged(session, before)

    def test_the_errors_of_steps(self):
        session = begun()
        for value in [*others(), (0,), (0, 0, 0), [0, 0], (True, 0), (0, False), (0, -1), ("0", 0), (0, None), "00"]:
            self.refused(InvalidStep, value, session.attempt, [("step", value)])
        self.refused_like(InvalidStep, (3, 0), session.attempt, [("step", (3, 0))])
        self.refused_like(InvalidStep, (0, 4), session.attempt, [("go", []), ("step", (0, 4))])
        wrong = (0, 9)
        self.refused(InvalidStep, wrong, session.attempt, [("go", [(0, 0), wrong, (9, 9)])])
        for value in others():
            self.refused(InvalidHands, value, session.attempt, [("step", (0, 0)), ("rebench", value)])
            if not isinstance(value, (list, tuple)):
                self.refused(InvalidStep, value, session.attempt, [("step", (0, 0)), ("go", value)])
        self.unchanged(session, undoings(begun()))

    def test_malformed_deeds(self):
        session = begun(run=RUN)
        before = undoings(begun(run=RUN))
        good = ("step", (1, 0))
        for deed in [(), ("step",), ("undo",), ("step", (1, 0), 0), ["step", (1, 0)], ("Step", (1, 0)), ("", None),
                     ("bench", OTHER), ("attempt", []), (b"undo", None), (None, None), (0, "step", (1, 0)), "go",
                     ("steps", (1, 0)), (Stubborn(), None), Stubborn(), None, 5, {"step": (1, 0)}]:
            for deeds in [[deed], [good, deed], (deed, good), [("step", None), deed]]:
                self.refused(InvalidCommand, deeds, session.attempt, deeds)
        for value in [*others(), "undo", ("undo", None), {("undo", None): 1}, iter([("undo", None)])]:
            if not isinstance(value, (list, tuple)) or len(value) > 0:
                self.refused(InvalidCommand, value, session.attempt, value)
        self.unchanged(session, before)

    def test_errors_that_are_none_of_the_package(self):
        class Torn(list):
            def __iter__(self):
                raise Stop()

        session = begun(run=RUN)
        with self.assertRaises(Stop):
            session.attempt([("step", (1, 0)), ("go", Torn([(2, 0)]))])
        self.unchanged(session, undoings(begun(run=RUN)))


class TestTrials(SessionCase):
    def failing(self, block):
        """Let a function do something in a block of trials, which ends with an error behind it."""
        with self.assertRaises(Stop) as caught:
            with Trials() as trials:
                error = Stop("the error")
                block(trials)
                raise error
        self.assertIs(caught.exception, error)
        return trials

    def test_what_as_gives(self):
        trials = Trials()
        with trials as given:
            self.assertIs(given, trials)

    def test_no_sessions(self):
        with Trials() as trials:
            self.assertEqual(len(trials), 0)
        self.assertEqual(len(self.failing(lambda trials: None)), 0)
        self.assertEqual(len(Trials()), 0)

    def test_enter_returns_the_session(self):
        session = begun()
        with Trials() as trials:
            self.assertIs(trials.enter(session), session)
            self.assertIs(trials.enter(session=session), session)

    def test_how_many_trials(self):
        one, other = begun(), begun()
        trials = Trials()
        with trials:
            for many, session in enumerate([one, other, one, one]):
                self.assertEqual(len(trials), many)
                trials.enter(session)
            self.assertEqual(len(trials), 4)
        with trials:
            self.assertEqual(len(trials), 0)
            trials.enter(other)
            self.assertEqual(len(trials), 1)

    def test_a_block_without_an_error(self):
        session, plain = begun(run=RUN[:1]), PlainSession(BENCH)
        with Trials() as trials:
            trials.enter(session)
            session.go(RUN[1:])
            session.bench = OTHER
        for run in [RUN[:1], RUN[1:]]:
            plain.go(run)
        plain.rebench(OTHER)
        self.same_back(session, plain)

    def test_a_block_with_an_error(self):
        before = undoings(begun(run=RUN))
        for change in [lambda session: session.step(2), lambda session: session.go([(2, 0)]), Session.undo,
                       lambda session: session.rebench(OTHER), lambda session: put_bench(session, OTHER),
                       lambda session: [session.undo() for _ in RUN], lambda session: None,
                       lambda session: session.attempt([("undo", None), ("step", (1, 1))])]:
            session = begun(run=RUN)

            def block(trials):
                trials.enter(session)
                change(session)

            self.failing(block)
            self.unchanged(session, before)

    def test_what_was_done_ahead_of_the_trial_stays(self):
        session = begun(run=RUN[:2])

        def block(trials):
            session.step(2)
            trials.enter(session)
            session.go([(1, 0), (2, 0)])

        self.failing(block)
        self.unchanged(session, undoings(begun(run=RUN[:3])))

    def test_one_session_twice(self):
        session = begun(run=RUN[:1])

        def block(trials):
            for step in RUN[1:]:
                trials.enter(session)
                session.step(*step)

        self.assertEqual(len(self.failing(block)), 3)
        self.unchanged(session, undoings(begun(run=RUN[:1])))

    def test_several_sessions(self):
        sessions = [begun(run=RUN[:many]) for many in range(4)]
        left = begun(run=RUN[:2])

        def block(trials):
            for session in sessions:
                trials.enter(session)
            for session in [*sessions, left]:
                session.rebench(OTHER)
                session.step(0)
            sessions[1].undo()

        self.failing(block)
        for many, session in enumerate(sessions):
            self.unchanged(session, undoings(begun(run=RUN[:many])))
        self.assertEqual(left.made, ((0, 0),))

    def test_going_on_behind_an_error(self):
        session, plain = begun(run=RUN[:2]), PlainSession(BENCH)
        plain.go(RUN[:1])
        plain.go(RUN[1:2])

        def block(trials):
            trials.enter(session)
            session.undo()
            session.step(1, 3)

        for run in [[(2, 0)], [(1, 0)]]:
            self.failing(block)
            self.same(session, plain)
            self.assertEqual(session.go(run), plain.go(run))
            self.same(session, plain)
        self.failing(block)
        session.undo()
        plain.undo()
        self.same(session, plain)
        self.failing(block)
        session.bench = OTHER
        plain.rebench(OTHER)
        self.failing(lambda trials: trials.enter(session).step(1))
        self.same_back(session, plain)

    def test_an_attempt_that_fails_behind_an_error(self):
        before = undoings(begun(run=RUN[:2]))
        for deeds in [[("step", (2, 0)), ("step", None)], [("undo", None)] * 3, [("rebench", OTHER), ("rebench", 5)]]:
            session = begun(run=RUN[:2])
            self.failing(lambda trials: trials.enter(session).go(RUN[2:]))
            with self.assertRaises((InvalidStep, NothingToUndo, InvalidHands)):
                session.attempt(deeds)
            self.unchanged(session, before)

    def test_other_trials_behind_an_error(self):
        session = begun(run=RUN[:1])
        self.failing(lambda trials: trials.enter(session).go(RUN[1:]))
        with Trials() as trials:
            trials.enter(session).step(*RUN[1])
        self.failing(lambda trials: trials.enter(session).undo())
        self.error_of(InvalidStep, together, [session], [(0, "undo", None), (0, "go", None)])
        self.unchanged(session, undoings(begun(run=RUN[:2])))

    def test_the_errors_of_sessions_go_on(self):
        session = begun(run=RUN)
        with self.assertRaises(InvalidStep) as caught:
            with Trials() as trials:
                trials.enter(session).undo()
                session.step(0, 7)
        self.assertEqual(caught.exception.value, (0, 7))
        self.unchanged(session, undoings(begun(run=RUN)))

    def test_an_error_that_is_caught_inside(self):
        session = begun(run=RUN[:2])
        with Trials() as trials:
            trials.enter(session)
            session.step(2)
            self.error_of(InvalidStep, session.step, 0, 7)
        self.unchanged(session, undoings(begun(run=RUN[:3])))

    def test_leaving_a_block_early_is_no_error(self):
        session = begun()

        def leave():
            with Trials() as trials:
                trials.enter(session)
                session.step(0)
                return "left"

        self.assertEqual(leave(), "left")
        self.assertEqual(session.made, ((0, 0),))
        for _ in range(1):
            with Trials() as trials:
                trials.enter(session)
                session.step(0)
                break
        self.assertEqual(session.made, ((0, 0), (0, 0)))

    def nested(self, outer_fails, inner_fails):
        """What a session tells behind an outer block with an inner one, which end with errors or not."""
        session = begun(run=RUN[:1])
        try:
            with Trials() as outer:
                outer.enter(session)
                session.step(*RUN[1])
                try:
                    with Trials() as inner:
                        inner.enter(session)
                        session.step(*RUN[2])
                        self.assertEqual((len(outer), len(inner)), (1, 1))
                        if inner_fails:
                            raise Stop()
                except Stop:
                    self.assertEqual(session.made, tuple(RUN[:2]))
                session.step(1, 0)
                if outer_fails:
                    raise Stop()
        except Stop:
            pass
        return undoings(session)

    def test_nested_blocks(self):
        ahead = undoings(begun(run=RUN[:1]))
        self.assertEqual(self.nested(True, False), ahead)
        self.assertEqual(self.nested(True, True), ahead)
        self.assertEqual(self.nested(False, True), undoings(begun(run=[*RUN[:2], (1, 0)])))
        self.assertEqual(self.nested(False, False), undoings(begun(run=[*RUN[:3], (1, 0)])))

    def test_an_error_that_goes_through_nested_blocks(self):
        one, other = begun(run=RUN[:1]), begun(run=RUN[:3])

        def block(outer):
            outer.enter(one)
            one.step(*RUN[1])
            with Trials() as inner:
                inner.enter(one)
                inner.enter(other)
                one.step(*RUN[2])
                other.undo()
                raise Stop()

        with self.assertRaises(Stop):
            with Trials() as trials:
                block(trials)
        self.unchanged(one, undoings(begun(run=RUN[:1])))
        self.unchanged(other, undoings(begun(run=RUN[:3])))

    def test_a_session_of_an_inner_block_only(self):
        session = begun(run=RUN[:1])

        def block(outer):
            with Trials() as inner:
                inner.enter(session)
                session.step(*RUN[1])

        self.failing(block)
        self.unchanged(session, undoings(begun(run=RUN[:2])))

    def test_blocks_one_behind_the_other(self):
        session, trials = begun(run=RUN[:1]), Trials()
        with trials:
            trials.enter(session)
            session.step(*RUN[1])
        with self.assertRaises(Stop):
            with trials:
                raise Stop()
        self.assertEqual(session.made, tuple(RUN[:2]))
        with self.assertRaises(Stop):
            with trials:
                trials.enter(session)
                session.undo()
                raise Stop()
        self.assertEqual(session.made, tuple(RUN[:2]))
        with trials:
            trials.enter(session)
            session.step(*RUN[2])
        self.unchanged(session, undoings(begun(run=RUN[:3])))

    def test_long_drawn_orders_of_blocks(self):
        draw = random.Random("blocks")
        for _ in range(60):
            sessions = [(begun(), PlainSession(BENCH)) for _ in range(2)]
            self.block(draw, sessions, 3)
            for session, plain in sessions:
                self.same_back(session, plain)

    def block(self, draw, sessions, depth):
        """A block with changes and inner blocks, which may end with an error; the plain ones go back by hand."""
        saved = {}
        try:
            with Trials() as trials:
                for at, (session, plain) in enumerate(sessions):
                    if draw.random() < 0.7:
                        trials.enter(session)
                        saved[at] = list(plain.states)
                for _ in range(4):
                    self.change(draw, *draw.choice(sessions))
                    if depth and draw.random() < 0.4:
                        self.block(draw, sessions, depth - 1)
                if draw.random() < 0.5:
                    raise Stop()
        except Stop:
            for at, states in saved.items():
                sessions[at][1].states = states
        for session, plain in sessions:
            self.same(session, plain)

    def change(self, draw, session, plain):
        steps = plain.play()[0].steps()
        word = draw.choice(["step", "step", "undo", "rebench"])
        if word == "step" and steps:
            step = draw.choice(steps)
            self.assertEqual((session.step(*step),), plain.go([step]))
        elif word == "undo" and plain.undo():
            session.undo()
        elif word == "rebench":
            session.rebench(OTHER)
            plain.rebench(OTHER)


class TestTogether(SessionCase):
    def test_several_sessions(self):
        one, other = begun(run=RUN[:2]), begun(OTHER)
        values = together([one, other], [(0, "step", (2, 0)), (1, "go", [(0, 0), (1, 0)]), (0, "undo", None),
                                         (0, "rebench", OTHER), (1, "undo", 3), (0, "step", (1, 0))])
        self.assertEqual(values, ("done", ("done", "done"), None, None, None, "done"))
        self.assertIs(type(values), tuple)
        self.assertEqual((one.made, other.made), (((1, 0),), ()))
        self.assertIs(one.bench, OTHER)
        one.undo()
        one.undo()
        self.unchanged(one, undoings(begun(run=RUN[:2])))
        self.unchanged(other, undoings(begun(OTHER)))

    def test_no_deeds_and_no_sessions(self):
        session = begun(run=RUN)
        for sessions in [[], (), [session], (session,)]:
            for deeds in [[], ()]:
                self.assertEqual(together(sessions, deeds), ())
        self.unchanged(session, undoings(begun(run=RUN)))

    def test_by_name(self):
        session = begun()
        self.assertEqual(together(deeds=((0, "go", tuple(RUN)),), sessions=(session,)), (BENCH(RUN),))

    def test_refused_deeds_at_each_place(self):
        good = [(0, "step", (1, 0)), (1, "undo", None), (0, "undo", None), (1, "go", [(2, 0)]), (0, "rebench", OTHER),
                (1, "undo", None)]
        wrong = [((0, "step", (0, 9)), InvalidStep), ((1, "step", None), InvalidStep), ((1, "go", 5), InvalidStep),
                 ((0, "go", [(9, 9)]), InvalidStep), ((1, "rebench", PAIR), InvalidHands)]
        for deed, kind in wrong:
            for at in range(len(good) + 1):
                sessions = [begun(run=RUN), begun(run=RUN[:3])]
                self.error_of(kind, together, sessions, [*good[:at], deed, *good[at:]])
                self.unchanged(sessions[0], undoings(begun(run=RUN)))
                self.unchanged(sessions[1], undoings(begun(run=RUN[:3])))
        sessions = [begun(run=RUN), begun(run=RUN[:3])]
        self.error_of(NothingToUndo, together, sessions, [(0, "undo", None), *[(1, "undo", None)] * 4])
        self.unchanged(sessions[0], undoings(begun(run=RUN)))
        self.unchanged(sessions[1], undoings(begun(run=RUN[:3])))

    def test_the_errors_keep_the_arguments(self):
        session = begun()
        for value in [*others(), (0,), (0, 0, 0), [0, 0], (True, 0), (0, -1)]:
            self.refused(InvalidStep, value, together, [session], [(0, "step", value)])
            self.refused(InvalidHands, value, together, [session], [(0, "rebench", value)])
            self.assertEqual(together([begun(run=RUN)], [(0, "undo", value)]), (None,))
        self.refused_like(InvalidStep, (0, 9), together, [session], [(0, "step", (0, 9))])

    def test_numbers_that_are_not_there_and_malformed_values(self):
        sessions = [begun(run=RUN), begun(run=RUN[:3])]
        good = (0, "step", (1, 0))
        for deed in [(2, "undo", None), (-1, "undo", None), (True, "undo", None), (False, "undo", None),
                     (None, "undo", None), ("0", "undo", None), (10 ** 40, "undo", None), (sessions[0], "undo", None),
                     (0, "Undo", None), (0, "", None), (0, None, None), (0, b"undo", None), (0, "together", []),
                     (0, "undo"), ("undo", None), (0, "undo", None, None), [0, "undo", None], (), (0,), None, 0,
                     (Stubborn(), "undo", None), (0, Stubborn(), None), Stubborn(), "0undo"]:
            for deeds in [[deed], [good, deed], (deed, good), [(0, "step", None), deed]]:
                self.refused(InvalidCommand, deeds, together, sessions, deeds)
        for value in [*others(), (0, "undo", None), "undo", iter([good])]:
            if not isinstance(value, (list, tuple)) or len(value) > 0:
                self.refused(InvalidCommand, value, together, sessions, value)
        deeds = [(0, "undo", None)]
        self.refused(InvalidCommand, deeds, together, [], deeds)
        self.unchanged(sessions[0], undoings(begun(run=RUN)))
        self.unchanged(sessions[1], undoings(begun(run=RUN[:3])))

    def test_inside_of_a_block(self):
        for fails in [False, True]:
            one, other = begun(run=RUN[:1]), begun()
            try:
                with Trials() as trials:
                    trials.enter(one)
                    self.error_of(InvalidStep, together, [one, other],
                                  [(0, "step", RUN[1]), (1, "step", (0, 0)), (0, "step", None)])
                    self.assertEqual((one.made, other.made), (tuple(RUN[:1]), ()))
                    together([one, other], [(0, "step", RUN[1]), (1, "step", (0, 0))])
                    if fails:
                        raise Stop()
            except Stop:
                pass
            self.unchanged(one, undoings(begun(run=RUN[:1 if fails else 2])))
            self.unchanged(other, undoings(begun(run=[(0, 0)])))


if __name__ == "__main__":
    unittest.main()
