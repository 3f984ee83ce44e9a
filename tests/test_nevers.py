"""[54] to [56]: states, steps and papers for what never happens."""

import unittest
from math import lcm

from linestream.changes import First
from linestream.classes import cases_of, classes
from linestream.conditions import Begins, Fails, Has, Is
from linestream.errors import OutOfRange
from linestream.happen import passed, reached
from linestream.nevers import first_state, is_never, never, step
from linestream.rounds import Runner
from linestream.scripts import (
    Any, Change, Changed, Count, Drop, Each, Forget, If, Keep, Kept, Last, Leave, Not, Number, Print, Put, Range, Read,
    Script, Skip, Slide, Stop, Tell, addresses_of)
from linestream.sessions import Session
from tests.bounded import made, texts_of
from tests.plainly import Plain
from tests.samples import any_values

RICH = [
    Script(Keep(at=If(Has("a"))), Read(at=Range(Kept(Begins("a")), Count(3))), Put(at=Each(2, 3)), window=2, store=1),
    Script(Read(at=Not(Number(2))), Read(at=Each(3, 1)), Slide(at=Range(If(Is("a")), Last())), window=3),
    Script(Change(First("a", "b")), Keep(), Print(at=Range(Each(2, 2), Number(3))), Forget(at=Kept(Is("b"))), store=2),
    Script(Tell("x", at=Range(Number(2), If(Has("b")))), Stop(at=Each(3, 3)), Leave(at=Changed()), Drop(at=Last())),
    Script(Skip(2, at=Kept(Fails(Has("a")))), Keep(), Read(at=Range(Any(), Count(2))), Put(), window=1, store=2),
    Script(Read(at=Range(Last(), Any())), Keep(), store=1), Script(Keep(at=Not(Range(Number(1), Count(1)))), store=1),
    Script(), Script(Read(), window=2), Script(Print(at=Number(3))),
]


def parts_of(script):
    return [address for command in script.commands for address in addresses_of(command.at)]


def far_and_cycle(script):
    """[54]: N and m."""
    found = parts_of(script)
    named = [each.number for each in found if isinstance(each, Number)] + [each.start for each in found if isinstance(each, Each)]
    return max(named, default=0), lcm(*[each.step for each in found if isinstance(each, Each)])


def kept_test(script):
    tests = [each.test for each in parts_of(script) if isinstance(each, Kept) and each.test is not None]
    return tests[0] if tests else None


def state_of(script, checkpoint):
    """[54]: the state of a session that is open."""
    _, number, _, place, _, store, _, ranges = checkpoint
    far, cycle = far_and_cycle(script)
    if number > far:
        number = far + 1 + (number - far - 1) % cycle
    test = kept_test(script)
    return (place, number, ranges, tuple([() if test is None else (test.holds(line),) for line in store]))


def all_states(script):
    """All states of the form of [56]."""
    far, cycle = far_and_cycle(script)
    places = [0] + [at + 1 for at, command in enumerate(script.commands) if isinstance(command, Read)]
    entries = [()] if kept_test(script) is None else [(True,), (False,)]
    most = [each.stop.number if isinstance(each.stop, Count) else 2 for each in script.ranges]
    opened = [(many,) for many in range(most[0])] if most else [()]
    stores = [tuple(row) for row in texts_of(entries, script.store)]
    return [(place, number, ranges, store) for place in places for number in range(far + cycle + 1)
            for ranges in opened for store in stores]


class StepTest(unittest.TestCase):
    def kinds(self, script):
        return classes(cases_of(script))

    def test_examples_of_section_6(self):
        script = Script(Change(First("a", "b"), at=Number(1)), Keep(at=If(Has("b"))), Put(at=Last()), Drop(), store=1)
        self.assertEqual(first_state(script), (0, 0, (), ()))
        other = Script(Skip(1), Print(), Tell("x"))
        self.assertEqual(never(other, 2, True), None)
        states = ((0, 0, (), ()), (0, 1, (), ()))
        self.assertEqual(
            [is_never(other, 1, True, ("never", states)), is_never(other, 1, True, ("never", states[:1]))], [True, False])

    def test_first_state(self):
        self.assertEqual(first_state(script=Script()), (0, 0, (), ()))
        for stop in (Count(3), Last(), Number(2)):
            self.assertEqual(first_state(Script(Print(at=Range(Any(), stop)), store=2)), (0, 0, (0,), ()))

    def test_beside_runs(self):
        for script in RICH + [script for _, script in made(range(400, 450))]:
            kinds = self.kinds(script)
            for text in texts_of([lines.least for lines in kinds], 4, 60):
                self.check_run(script, kinds, text)

    def check_run(self, script, kinds, text):
        self.assertEqual(state_of(script, Session(script).checkpoint), first_state(script))
        state = first_state(script)
        plain = Plain(script, text)
        for at, line in enumerate(text):
            kind = [line in lines for lines in kinds].index(True)
            is_last = at + 1 == len(text)
            state, events = step(script, state, kind, is_last)
            self.assertEqual(list(events), plain.steps[at])
            self.check_kinds(events)
            if is_last:
                self.assertIsNone(state)
                return
            session = self.fed(script, text[:at + 1])
            if session.has_ended:
                self.assertIsNone(state)
                return
            self.assertEqual(state, state_of(script, session.checkpoint))

    def fed(self, script, lines):
        """A session that has read all these lines; another one waits."""
        session = Session(script)
        session.feed(*lines, "")
        return session

    def check_kinds(self, events):
        self.assertIs(type(events), tuple)
        for event in events:
            self.assertEqual([type(event), type(event[0]), type(event[1])], [tuple, int, bool])

    def test_in_all_states(self):
        for script in RICH:
            kinds = self.kinds(script)
            far, cycle = far_and_cycle(script)
            test = kept_test(script)
            some = {None: "a"} if test is None else {
                answer: [line for line in ("", "a", "b", "ab", "ba") if test.holds(line) == answer][0]
                for answer in (True, False)}
            for state in all_states(script):
                for kind, lines in enumerate(kinds):
                    for is_last in (True, False):
                        behind, events = step(script=script, state=state, kind=kind, is_last=is_last)
                        place, number, ranges, store = state
                        kept = [some[entry[0] if entry else None] for entry in store]
                        runner = Runner(script)
                        runner.reads, runner.place, runner.opened = number, place, list(ranges)
                        runner.kept = [(line, 1, ()) for line in kept]
                        runner.seen = [("", 1, ())] if place else []
                        runner.read(lines.least, is_last)
                        self.assertEqual([index for index, is_done in events if is_done], runner.did)
                        self.assertEqual([event[0] for event in events], sorted({event[0] for event in events}))
                        if runner.is_over:
                            self.assertIsNone(behind)
                        else:
                            expected = state_of(script, (0, runner.reads, 0, runner.place, 0, [
                                line for line, _, _ in runner.kept], 0, tuple(runner.opened)))
                            self.assertEqual(behind, expected)
                            self.assertLessEqual(behind[1], far + cycle)

    def test_ends(self):
        reading = Script(Read(), Tell("x"))
        self.assertEqual(step(reading, (0, 0, (), ()), 0, True), (None, ((0, True),)))
        self.assertEqual(step(reading, (0, 0, (), ()), 0, False), ((1, 1, (), ()), ((0, True),)))
        self.assertEqual(step(reading, (1, 1, (), ()), 0, True), (None, ((1, True),)))
        self.assertEqual(step(reading, (1, 1, (), ()), 0, False), ((0, 1, (), ()), ((1, True),)))
        for command, behind in ((Stop(), None), (Leave(), None), (Drop(), (0, 1, (), ())), (Slide(), (0, 1, (), ()))):
            script = Script(command, Print(), window=2)
            self.assertEqual(step(script, (0, 0, (), ()), 0, False), (behind, ((0, True),)))
            self.assertEqual(step(script, (0, 0, (), ()), 0, True), (None, ((0, True),)))
        skipping = Script(Skip(1, at=Number(2)), Print(), Keep(), store=1)
        self.assertEqual(step(skipping, (0, 0, (), ()), 0, False), ((0, 1, (), ((),)), ((0, False), (1, True), (2, True))))
        self.assertEqual(step(skipping, (0, 1, (), ((),)), 0, False), ((0, 2, (), ((),)), ((0, True), (2, True))))
        self.assertEqual(step(skipping, (0, 2, (), ((),)), 0, False)[0], (0, 3, (), ((),)))
        self.assertEqual(step(skipping, (0, 3, (), ((),)), 0, False)[0], (0, 3, (), ((),)))


class NeverTest(unittest.TestCase):
    def test_beside_reached_and_passed(self):
        for script in RICH + [script for _, script in made(range(450, 520))]:
            for index in range(len(script)):
                for tell, is_done in ((reached, True), (passed, False)):
                    paper = never(script, index, is_done)
                    self.assertEqual(paper is None, tell(script, index) is not None)
                    if paper is not None:
                        self.assertEqual([type(paper), type(paper[1]), paper[0]], [tuple, tuple, "never"])
                        self.assertIs(is_never(script, index, is_done, paper), True)
                        self.assertTrue(paper[1])
                    else:
                        everything = ("never", tuple(all_states(script)))
                        self.assertIs(is_never(script, index, is_done, everything), False)

    def test_bent_papers(self):
        no = Not(Any())
        script = Script(Keep(at=If(Has("a"))), Read(at=Range(Kept(Has("b")), Count(3))), Tell("x", at=no), store=2)
        paper = never(script=script, index=2, is_done=True)
        states = paper[1]
        self.assertGreater(len(states), 5)
        self.assertTrue(is_never(script=script, index=2, is_done=True, value=paper))
        self.assertTrue(is_never(script, 2, True, ("never", states[::-1])))
        self.assertFalse(is_never(script, 2, False, paper))
        self.assertFalse(is_never(script, 0, True, paper))
        for at, state in enumerate(states):
            self.assertFalse(is_never(script, 2, True, ("never", states[:at] + states[at + 1:])))
            self.assertFalse(is_never(script, 2, True, ("never", (*states, state))))
            for bent in (list(state), state[:3], (*state, ()), (True, *state[1:]), (state[0], False, *state[2:]),
                         (3, *state[1:]), (-1, *state[1:]), (state[0], 2, *state[2:]), (state[0], -1, *state[2:]),
                         (*state[:2], [0], state[3]), (*state[:2], (3,), state[3]), (*state[:2], (True,), state[3]),
                         (*state[:2], (), state[3]), (*state[:2], (-1,), state[3]), (*state[:2], (0, 0), state[3]),
                         (*state[:3], [()]), (*state[:3], ((),)), (*state[:3], ((1,),)), (*state[:3], ([True],)),
                         (*state[:3], (True,)), (*state[:3], ((True,),) * 3), (*state[:3], ((True, True),)), (*state[:3], None)):
                self.assertFalse(is_never(script, 2, True, ("never", (*states[:at], bent, *states[at + 1:]))))
                self.assertFalse(is_never(script, 2, True, ("never", (*states, bent))))
        for value in (["never", states], ("never", list(states)), ("never",), ("never", states, ()), ("ever", states), states,
                      ("never", {}), ("never", None), ("never", ()), (None, states), ("never", "never"), (["never"], states)):
            self.assertIs(is_never(script, 2, True, value), False)

    def test_entries_of_stores(self):
        plain, asked = Script(Print(at=Not(Any())), Keep(), store=2), Script(Print(at=Not(Any())), Keep(at=Kept(Has("a"))), store=2)
        for script, right, wrong in ((plain, (), (True,)), (asked, (False,), ())):
            states = never(script, 0, True)[1]
            self.assertTrue(is_never(script, 0, True, ("never", states)))
            more = [(0, 1, (), (right,)), (0, 1, (), (right, right)), (0, 0, (), (right,)), (0, 0, (), (right, right))]
            more = tuple([state for state in more if state not in states])
            self.assertTrue(is_never(script, 0, True, ("never", (*states, *more))))
            for bent in ((0, 0, (), (wrong,)), (0, 0, (), (right, wrong)), (0, 0, (), (wrong, right)), (0, 0, (), ([],)), (0, 0, (), (None,))):
                self.assertFalse(is_never(script, 0, True, ("never", (*states, *more, bent))))

    def test_more_states_than_can_come(self):
        script = Script(Tell("x", at=Not(Any())), Read(at=Number(2)), store=1)
        states = tuple(all_states(script))
        self.assertTrue(is_never(script, 0, True, ("never", states)))
        self.assertGreater(len(states), len(never(script, 0, True)[1]))
        once = Script(Stop(at=Number(2)), Print(at=Number(3)), store=0)
        self.assertTrue(is_never(once, 1, True, never(once, 1, True)))
        # A state that does not come may lead to what never happens.
        self.assertFalse(is_never(once, 1, True, ("never", (*never(once, 1, True)[1], (0, 2, (), ())))))

    def test_any_value(self):
        script = Script(Print(at=Not(Any())))
        for value in any_values():
            self.assertIs(is_never(script, 0, True, value), False)
            self.assertIs(is_never(script, 0, True, ("never", (value,))), False)
            self.assertIs(is_never(script, 0, True, ("never", value)), False)
            self.assertIs(is_never(script, 0, True, ("never", ((0, 0, (), ()), value))), False)
            for at in range(4):
                bent = [0, 1, (), ()]
                bent[at] = value
                if not (at in (0, 1) and value in (0, 1) and not isinstance(value, bool)) and value != ():
                    self.assertIs(is_never(script, 0, True, ("never", ((0, 0, (), ()), tuple(bent)))), False)

    def test_indexes(self):
        script = Script(Print())
        for value in (1, -1, True, None, "0", (0,), 10 ** 40):
            for ask in (lambda: never(script, value, True), lambda: is_never(script, value, True, None)):
                with self.assertRaises(OutOfRange) as caught:
                    ask()
                self.assertIs(caught.exception.value, value)


if __name__ == "__main__":
    unittest.main()
