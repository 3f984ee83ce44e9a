"""[40], [41]: sessions and their checkpoints."""

import copy
import unittest
from itertools import product

from linestream.changes import Every, Front
from linestream.conditions import Has, Is
from linestream.errors import Finished, InvalidCheckpoint, InvalidLine
from linestream.running import run
from linestream.scripts import (
    Any, Change, Count, Drop, If, Keep, Kept, Last, Later, Leave, Not, Number, Print, Put, Range, Read, Script, Skip, Slide,
    Stop, Tell)
from linestream.sessions import Session
from tests.made import Chance
from tests.plainly import Plain
from tests.samples import any_values, some_addresses, some_changes, some_commands, some_tests

SCRIPTS = [
    Script(), Script(Tell("end", at=Last())), Script(Read(), window=2), Script(Read(), Read(), window=2, is_quiet=True),
    Script(Later("x"), Read(), Later("y"), Read(), Tell("z"), window=3), Script(Stop(at=Number(2))),
    Script(Later("x"), Leave(at=Number(3))), Script(Keep(), Put(at=Last()), store=2, is_quiet=True),
    Script(Keep(), Print(at=Kept(Is("b"))), store=3), Script(Read(at=Number(1)), Slide(at=Not(Last())), window=2),
    Script(Tell("r", at=Range(If(Is("a")), Count(3))), Drop(at=Range(Number(2), Last()))),
    Script(Read(at=Range(Any(), Number(2))), Tell("t", at=Not(Range(If(Is("b")), If(Is("a"))))), window=2),
    Script(Change(Front("a")), Keep(at=Number(1)), Put(), Change(Every("a", "b")), Slide(), window=3, store=1),
]
TEXTS = [[], ["a"], ["b", "a"], ["a", "b", "c"], ["b", "b", "a", "b"], ["a", "a", "b", "a", "c"]]


def cuts(text):
    """All ways to cut a text into calls of feed: none behind a line, or one."""
    for marks in product((False, True), repeat=max(0, len(text) - 1)):
        parts, rest = [], []
        for line, is_end in zip(text, (*marks, True)):
            rest.append(line)
            if is_end:
                parts.append(rest)
                rest = []
        yield parts


def fed(script, text):
    session = Session(script)
    session.feed(*text)
    return session


class ExamplesTest(unittest.TestCase):
    def test_examples_of_section_5(self):
        session = Session(Script(Tell("end", at=Last())))
        self.assertEqual(
            [session.feed("a"), session.feed("b", "c"), session.waiting, session.finish(), len(session.printed)],
            [(), ('a', 'b'), 'c', ('end', 'c'), 4])
        session = Session(Script(Read(), window=2))
        self.assertEqual([session.feed("a", "b"), session.checkpoint],
                         [(), ('open', 1, 'b', 1, ('a',), (), (), ())])


class FeedTest(unittest.TestCase):
    def test_texts_cut_in_every_way(self):
        for script in SCRIPTS:
            for text in TEXTS:
                for parts in cuts(text):
                    session = Session(script=script)
                    printed = ()
                    for part in parts:
                        found = session.feed(*part) + session.feed()
                        self.assertIs(type(found), tuple)
                        printed += found
                        self.assertEqual(session.printed, printed)
                    printed += session.finish()
                    self.assertEqual(list(printed), run(script, text))
                    self.assertEqual(session.printed, printed)

    def test_a_session_has_always_done_all_that_it_can_do(self):
        for script in SCRIPTS:
            for text in TEXTS:
                session = Session(script)
                for at, line in enumerate(text):
                    session.feed(line)
                    sure = []
                    # All lines but the last one are read, whatever follows.
                    for other in ([*text[:at], line, "q", "q", "q"], [*text[:at], line, "a", "b", "b", "b"]):
                        other_session = Session(script)
                        for ahead in other[:at + 1]:
                            sure = other_session.feed(ahead)
                    self.assertEqual(session.printed[len(session.printed) - len(sure):], tuple(sure))
                    self.assertEqual(list(session.printed), run(script, text)[:len(session.printed)])

    def test_what_is_told_behind_each_call(self):
        session = Session(Script(Stop(at=Number(2)), Tell("x")))
        told = lambda: (session.fed, session.waiting, session.printed, session.has_ended, session.is_finished)
        self.assertEqual(told(), (0, None, (), False, False))
        self.assertEqual([session.feed(), told()], [(), (0, None, (), False, False)])
        self.assertEqual([session.feed("a"), told()], [(), (1, "a", (), False, False)])
        self.assertEqual([session.feed("b"), told()], [("x", "a"), (2, "b", ("x", "a"), False, False)])
        self.assertEqual([session.feed("c", "d"), told()], [("b",), (4, None, ("x", "a", "b"), True, False)])
        self.assertEqual([session.feed("e"), told()], [(), (5, None, ("x", "a", "b"), True, False)])
        self.assertEqual([session.finish(), told()], [(), (5, None, ("x", "a", "b"), True, True)])

    def test_leave(self):
        session = Session(Script(Leave(), window=2))
        self.assertEqual([session.feed("a"), session.waiting, session.has_ended], [(), "a", False])
        self.assertEqual([session.feed("b"), session.waiting, session.has_ended, session.fed], [(), None, True, 2])
        self.assertEqual([session.checkpoint, session.is_finished], [("ended",), False])
        session = fed(Script(Leave(), window=2), ["a", "b", "c"])
        self.assertEqual([session.finish(), session.checkpoint, session.printed], [(), ("finished",), ()])

    def test_finish(self):
        session = Session(Script(Tell("end", at=Last())))
        self.assertEqual([session.finish(), session.has_ended, session.is_finished, session.fed], [(), True, True, 0])
        session = fed(Script(Tell("end", at=Last())), ["a"])
        self.assertEqual([session.finish(), session.waiting, session.fed], [("end", "a"), None, 1])
        session = fed(Script(Read(), Tell("x"), window=2), ["a"])
        self.assertEqual(session.finish(), ("a",))

    def test_properties(self):
        script = Script(Tell("x"))
        session = Session(script)
        self.assertEqual(session.script, script)
        for name in ("script", "fed", "waiting", "printed", "has_ended", "is_finished", "checkpoint"):
            self.assertRaises(AttributeError, setattr, session, name, 1)
        session.feed("a", "b")
        self.assertEqual([type(session.fed), type(session.printed), type(session.waiting)], [int, tuple, str])
        self.assertIs(session.has_ended, False)
        self.assertIs(session.is_finished, False)


class ErrorsTest(unittest.TestCase):
    def told(self, session):
        return (session.fed, session.waiting, session.printed, session.has_ended, session.is_finished, session.checkpoint)

    def test_finished(self):
        for text in ([], ["a"], ["a", "b"]):
            for script in SCRIPTS:
                session = fed(script, text)
                session.finish()
                before = self.told(session)
                for call in (session.finish, session.feed, lambda: session.feed("a"), lambda: session.feed(None)):
                    self.assertRaises(Finished, call)
                    self.assertEqual(self.told(session), before)

    def test_invalid_lines(self):
        values = [*any_values(), *some_tests(), *some_changes(), *some_addresses(), *some_commands()]
        for script in (Script(), Script(Read(), window=2), Script(Stop())):
            session = fed(script, ["a", "b"])
            before = self.told(session)
            for value in values:
                for arguments in ([value], ["a", value], ["a", "b", value, None, "%"], [value, value]):
                    with self.assertRaises(InvalidLine) as caught:
                        session.feed(*arguments)
                    self.assertIs(caught.exception.value, value)
                    self.assertEqual(self.told(session), before)
            session.feed("c")
            self.assertEqual(session.fed, 3)

    def test_invalid_lines_behind_the_end_of_the_script(self):
        session = fed(Script(Leave()), ["a", "b", "c"])
        self.assertTrue(session.has_ended)
        with self.assertRaises(InvalidLine) as caught:
            session.feed("d", "%")
        self.assertEqual([caught.exception.value, session.fed], ["%", 3])


class CheckpointTest(unittest.TestCase):
    def test_between_two_rounds_and_at_a_read(self):
        script = Script(Later("x"), Read(), Later("y"), Read(), window=3)
        session = Session(script)
        self.assertEqual(session.checkpoint, ("open", 0, None, 0, (), (), (), ()))
        for line, expected in (("a", ("open", 0, "a", 0, (), (), (), ())), ("b", ("open", 1, "b", 2, ("a",), (), ("x",), ())),
                               ("c", ("open", 2, "c", 4, ("a", "b"), (), ("x", "y"), ())),
                               ("d", ("open", 3, "d", 0, (), (), (), ())), ("e", ("open", 4, "e", 2, ("d",), (), ("x",), ()))):
            session.feed(line)
            self.assertEqual(session.checkpoint, expected)
        session.finish()
        self.assertEqual(session.checkpoint, ("finished",))

    def test_window_and_store(self):
        session = fed(Script(Keep(), Change(Front("x")), Read(at=Number(1)), Slide(), window=3, store=2), "abcd")
        self.assertEqual(session.checkpoint, ("open", 3, "d", 0, ("xc",), ("a", "c"), (), ()))
        session = fed(Script(Keep(), Read(at=Number(1)), Read(at=Number(2)), Slide(), window=3, store=2), "abcd")
        self.assertEqual(session.checkpoint, ("open", 3, "d", 0, ("b", "c"), ("a",), (), ()))

    def test_ranges(self):
        script = Script(Tell("x", at=Range(Number(1), Count(3))), Tell("y", at=Range(Number(2), Last())),
                        Tell("z", at=Not(Range(Any(), Number(3)))), Tell("w", at=Range(Any(), Count(1))))
        session = Session(script)
        found = []
        for line in "abcde":
            session.feed(line)
            found.append(session.checkpoint[7])
        self.assertEqual(found, [(0, 0, 0, 0), (1, 0, 1, 0), (2, 1, 1, 0), (0, 1, 0, 0), (0, 1, 0, 0)])

    def test_ended(self):
        session = fed(Script(Stop()), ["a"])
        self.assertEqual(session.checkpoint, ("open", 0, "a", 0, (), (), (), ()))
        session.feed("b")
        self.assertEqual(session.checkpoint, ("ended",))
        session.finish()
        self.assertEqual(session.checkpoint, ("finished",))

    def test_kinds(self):
        found = fed(Script(Keep(), Later("x"), Read(), Tell("x", at=Range(Any(), Last())), store=1), "abc").checkpoint
        self.assertEqual([type(each) for each in found], [tuple if at > 3 else int if at in (1, 3) else str for at in range(8)])
        self.assertIs(type(found), tuple)


class ResumedTest(unittest.TestCase):
    def check_resumed(self, script, session, behind):
        """What is resumed equals the session and goes on as it does."""
        other = Session.resumed(script, session.checkpoint)
        self.assertIs(type(other), Session)
        self.assertTrue(other == session and not other != session)
        self.assertEqual([other.checkpoint, other.printed, other.waiting], [session.checkpoint, (), session.waiting])
        self.assertEqual([other.has_ended, other.is_finished], [session.has_ended, session.is_finished])
        self.assertEqual(other.fed, session.fed if session.checkpoint[0] == "open" else 0)
        if not session.is_finished:
            same, before = session.copy(), other.fed
            self.assertEqual(other.feed(*behind), same.feed(*behind))
            self.assertEqual([other.checkpoint, other.fed], [same.checkpoint, before + len(behind)])
            self.assertEqual(other.finish(), same.finish())
            self.assertEqual(other.printed, same.printed[len(session.printed):])

    def test_each_checkpoint(self):
        for script in SCRIPTS:
            for text in TEXTS:
                session = Session(script)
                self.check_resumed(script, session, text)
                for at, line in enumerate(text):
                    session.feed(line)
                    self.check_resumed(script, session, text[at + 1:])
                    self.check_resumed(script, session, [])
                    self.check_resumed(script, session, ["c", "a", "b"])
                session.finish()
                self.check_resumed(script, session, [])

    def test_by_name(self):
        session = Session.resumed(checkpoint=("open", 0, "a", 0, (), (), (), ()), script=Script())
        self.assertEqual([session.fed, session.feed("b")], [1, ("a",)])

    def test_finished_and_ended(self):
        for script in SCRIPTS:
            session = Session.resumed(script, ("finished",))
            self.assertEqual([session.fed, session.has_ended, session.is_finished, session.waiting], [0, True, True, None])
            self.assertRaises(Finished, session.feed)
            self.assertRaises(Finished, session.finish)
            session = Session.resumed(script, ("ended",))
            self.assertEqual([session.fed, session.has_ended, session.is_finished, session.waiting], [0, True, False, None])
            self.assertEqual([session.feed("a", "b"), session.fed, session.checkpoint], [(), 2, ("ended",)])
            self.assertEqual([session.finish(), session.checkpoint], [(), ("finished",)])

    def test_any_place_goes_on(self):
        script = Script(Later("x"), Read(), Keep(), Put(), Later("y"), window=2, store=2)
        session = Session.resumed(script, ("open", 10 ** 40, "c", 2, ("b",), ("k",), ("x", "q"), ()))
        self.assertEqual([session.fed, session.finish()], [10 ** 40 + 1, ("k", "c", "b", "c", "x", "q", "y")])

    def test_what_is_not_taken(self):
        script = Script(Read(at=Number(1)), Tell("a", at=Range(Any(), Count(3))), Read(at=Range(Any(), Last())),
                        Later("x"), Drop(at=Not(Range(Any(), Number(4)))), window=3, store=2)
        right = ("open", 3, "w", 3, ("a", "b"), ("k",), ("l",), (2, 1, 0))
        between = ("open", 3, "w", 0, ("a", "b"), ("k",), (), (2, 1, 0))
        start = ("open", 0, None, 0, (), (), (), (0, 0, 0))
        self.assertEqual(Session.resumed(script, right).checkpoint, right)
        self.assertEqual(Session.resumed(script, between).checkpoint, between)
        self.assertEqual(Session.resumed(script, start).checkpoint, start)

        def check(*changes, of=right, taken=False):
            value = list(of)
            for at, each in changes:
                value[at] = each
            value = tuple(value)
            if taken:
                self.assertEqual(Session.resumed(script, value).checkpoint, value)
                return
            with self.assertRaises(InvalidCheckpoint) as caught:
                Session.resumed(script, value)
            self.assertIs(caught.exception.value, value)

        for word in ("Open", "", "ended", "finished", None, 1, ("open",), ["open"]):
            check((0, word))
        for number in (2, 10 ** 59):
            check((1, number), taken=True)
        for number in (1, 0, -1, True, None, "3", (3,), [3], 3.0):
            check((1, number))
        for waiting in (None, "%", "\n", 1, True, ("w",), ["w"], b"w"):
            check((2, waiting))
        check((2, ""), taken=True)
        check((2, "w" * 1000), taken=True)
        for place in (1, 3):
            check((3, place), taken=True)
        for place in (0, 2, 4, 5, 6, -1, 10 ** 30, True, None, "1", (1,), 1.0):
            check((3, place))
        for window in (("a",), ("", "b", "c")):
            check((4, window), taken=True)
        for window in ((), ("a", "b", "c", "d"), ["a", "b"], "ab", None, ("a", 1), ("%",), (("a",),), {"a": 1}):
            check((4, window), (1, 9))
        check((4, ("a", "b", "c")), (1, 2))
        for store in ((), ("a",), ("a", "")):
            check((5, store), taken=True)
        for store in (("a", "b", "c"), ["a"], "a", None, (None,), ("\t",), 0):
            check((5, store))
        for later in ((), ("x",) * 12, ("", "q")):
            check((6, later), taken=True)
        for later in (("x",) * 13, ["x"], "x", None, (1,), ("%",)):
            check((6, later))
        for ranges in ((0, 0, 0), (2, 1, 1), (1, 0, 1)):
            check((7, ranges), taken=True)
        for ranges in ((3, 1, 0), (2, 2, 0), (2, 1, 2), (-1, 1, 0), (0, -1, 0), (True, 0, 0), (0, False, 0), (0, 0), (0, 0, 0, 0),
                       [2, 1, 0], None, (None, 0, 0), ("0", 0, 0), (0.0, 0, 0), (), "210"):
            check((7, ranges))
        for window in ((), ("a",), ("a", "b")):
            check((4, window), of=between, taken=True)
        check((4, ("a", "b", "c")), of=between)
        check((6, ("l",)), of=between)
        check((6, []), of=between)
        for at, each in ((2, "w"), (2, None), (2, "")):
            check((at, each), of=start, taken=True)
        for at, each in ((2, "%"), (2, 0), (3, 1), (3, 3), (4, ("a",)), (5, ("k",)), (6, ("l",)), (7, (1, 0, 0)), (7, (0, 0, 1)),
                         (1, False), (4, []), (1, -1)):
            check((at, each), of=start)
        check((1, 1), of=start)
        check((1, 1), (2, "a"), of=start, taken=True)
        for value in (right[:7], right + ((),), right[1:], (), ("open",), ("ended", ()), ("finished", 1), ("ended", "ended"),
                      list(right), ["ended"], ["finished"], "ended", "finished", "open", {"ended": 1}, (("ended",),)):
            with self.assertRaises(InvalidCheckpoint) as caught:
                Session.resumed(script, value)
            self.assertIs(caught.exception.value, value)

    def test_values_of_any_kind(self):
        values = [*any_values(), *some_tests(), *some_changes(), *some_addresses(), *some_commands(), Session(Script())]
        for value in values:
            for script in SCRIPTS[:3]:
                before = copy.deepcopy(value) if isinstance(value, (list, dict, tuple)) else None
                with self.assertRaises(InvalidCheckpoint) as caught:
                    Session.resumed(script, value)
                self.assertIs(caught.exception.value, value)
                if before is not None:
                    self.assertEqual(value, before)
            lines = isinstance(value, tuple) and all(isinstance(each, str) and each in "ab" for each in value)
            for at in range(8):
                right = ["open", 1, "b", 1, ("a",), (), (), ()]
                number = at in (1, 3) and type(value) is int and value >= 0
                if not number and not (lines and at > 3):
                    right[at] = value
                    self.assertRaises(InvalidCheckpoint, Session.resumed, Script(Read(), window=2, store=1), tuple(right))

    def test_rooms(self):
        for window in (1, 2, 3):
            script = Script(Read(), window=window)
            for many in range(5):
                lines = ("a",) * many
                for place, taken in ((0, many <= window - 1), (1, 1 <= many <= window)):
                    value = ("open", 7, "w", place, lines, (), (), ())
                    if taken:
                        self.assertEqual(Session.resumed(script, value).checkpoint, value)
                    else:
                        self.assertRaises(InvalidCheckpoint, Session.resumed, script, value)
        for store in (0, 1, 2, 3):
            for many in range(5):
                value = ("open", 7, "w", 0, (), ("a",) * many, (), ())
                if many <= store:
                    self.assertEqual(Session.resumed(Script(store=store), value).checkpoint, value)
                else:
                    self.assertRaises(InvalidCheckpoint, Session.resumed, Script(store=store), value)

    def test_more_than_twelve_lines_of_later(self):
        script = Script(Read(), Later("x"), Read())
        session = Session.resumed(script, ("open", 1, "b", 1, ("a",), (), ("l",) * 12, ()))
        session.feed("c")
        self.assertEqual(len(session.checkpoint[6]), 13)
        self.assertRaises(InvalidCheckpoint, Session.resumed, script, session.checkpoint)
        self.assertEqual(session.finish(), ("c",) + ("l",) * 12 + ("x",))


class EqualityTest(unittest.TestCase):
    def test_equal_and_unequal(self):
        script = Script(Read(), Keep(), window=2, store=1)
        self.assertTrue(Session(script) == Session(Script(Read(), Keep(), window=2, store=1)))
        self.assertFalse(Session(script) != Session(script))
        self.assertFalse(Session(script) == Session(Script(Read(), Keep(), window=2, store=2)))
        self.assertTrue(Session(script) != Session(Script()))
        for one, other, expected in (
                (["a"], ["a"], True), (["a"], ["b"], False), (["a"], [], False), (["a", "b"], ["a", "b"], True),
                (["a", "b", "c"], ["x", "b", "c"], True), (["a", "b", "c"], ["a", "y", "c"], False),
                (["a", "b", "c"], ["a", "b", "c", "d"], False), ([], [], True)):
            self.assertIs(fed(script, one) == fed(script, other), expected)
            self.assertIs(fed(script, one) != fed(script, other), not expected)
        one, other = fed(Script(), ["a", "b"]), fed(Script(), ["c", "b"])
        self.assertTrue(one == other)
        self.assertNotEqual(one.printed, other.printed)
        one.finish()
        self.assertTrue(one != other)
        other.feed("d", "e")
        other.finish()
        self.assertTrue(one == other)

    def test_values_of_another_kind(self):
        session = Session(Script())
        for value in [*any_values(), *some_commands(), session.checkpoint, Script(), "a", Session, object()]:
            self.assertIs(session == value, False)
            self.assertIs(value == session, False)
            self.assertIs(session != value, True)


class CopyTest(unittest.TestCase):
    def test_copies_go_on_apart(self):
        for script in SCRIPTS:
            for text in TEXTS:
                session = fed(script, text)
                other = session.copy()
                told = lambda each: (each.script, each.fed, each.waiting, each.printed, each.has_ended, each.is_finished,
                                     each.checkpoint)
                self.assertIs(type(other), Session)
                self.assertEqual(told(other), told(session))
                self.assertTrue(other == session)
                before = told(session)
                other.feed("b", "a", "b", "c", "c")
                other.finish()
                self.assertEqual(told(session), before)
                again = told(other)
                session.feed("c", "c")
                self.assertEqual(told(other), again)
                self.assertEqual(list(other.printed), run(script, [*text, "b", "a", "b", "c", "c"]))
                self.assertEqual(other.copy().is_finished, True)


class BesideTest(unittest.TestCase):
    def test_many_scripts(self):
        for seed in range(400):
            chance = Chance(seed)
            script, text = chance.script(), chance.text()
            expected = Plain(script, text).run()
            session, printed, at = Session(script), [], 0
            while at < len(text):
                many = chance.random.randint(0, 3)
                printed += session.feed(*text[at:at + many])
                at += many
                other = Session.resumed(script, session.checkpoint)
                self.assertEqual(other, session)
                self.assertEqual(printed + list(other.feed(*text[at:])) + list(other.finish()), expected)
            self.assertEqual(printed + list(session.finish()), expected)
            self.assertEqual(list(session.printed), expected)


if __name__ == "__main__":
    unittest.main()
