"""[63], [64]: what is held behind a begun text, and closed sets."""

import random
import unittest
from math import lcm

from linestream.changes import Every, First, Front, Swap
from linestream.classes import cases_of, classes
from linestream.closing import closed_set, is_closed_set
from linestream.conditions import Begins, Has, Is, Only
from linestream.errors import InvalidText
from linestream.likeness import alike, outlook
from linestream.linesets import parted_on, result_on
from linestream.scripts import (
    Any, Change, Count, Drop, Each, If, Keep, Kept, Last, Later, Leave, Not, Number, Print, Put, PutFirst, Range, Read,
    Script, Slide, Stop, Tell, addresses_of)
from tests.bounded import few_lines, first_lines, texts_of
from tests.plainly import Begun
from tests.samples import any_values
from tests.test_likeness import ALIKE, SLOW, TAIL, UNLIKE, Told, made_pairs


def kept_test(script):
    tests = [each.test for command in script.commands for each in addresses_of(command.at) if isinstance(each, Kept)]
    return ([test for test in tests if test is not None] + [None])[0]


def number_behind(scripts, many):
    """[54], for both scripts together."""
    found = [each for script in scripts for command in script.commands for each in addresses_of(command.at)]
    named = [each.number for each in found if isinstance(each, Number)] + [each.start for each in found if isinstance(each, Each)]
    far, cycle = max(named, default=0), lcm(*[each.step for each in found if isinstance(each, Each)])
    while many > far + cycle:
        many -= cycle
    return many


class Plainly:
    """[63] told once more."""

    def __init__(self, one, other, text):
        self.scripts, self.text = (one, other), text
        self.kinds = classes(cases_of(one) + cases_of(other))
        self.runs = [Begun(script, text) for script in self.scripts]
        # Groups of held lines that are the same: tuples (number, changes).
        self.groups = []

    def entry(self, side, held):
        """The line if it is fixed, otherwise a tuple with the index of its group."""
        if held.number == 0:
            return held.line
        changes = [self.scripts[side].commands[index].change for index in held.changes]
        lines = [lines for lines in self.kinds if self.text[held.number - 1] in lines][0]
        fixed = result_on(changes, lines)
        if fixed is not None:
            return fixed
        for at, (number, others) in enumerate(self.groups):
            if number == held.number and parted_on(changes, others, lines) is None:
                return (at,)
        self.groups.append((held.number, changes))
        return (len(self.groups) - 1,)

    def outlook(self):
        printed = [[self.entry(side, held) for held in found.printed] for side, found in enumerate(self.runs)]
        many = min(len(lines) for lines in printed)
        if printed[0][:many] != printed[1][:many]:
            return None
        rest = (1, printed[1][many:]) if len(printed[1]) > many else (0, printed[0][many:])
        self.numbers = {}
        parts = [self.part(side, found) for side, found in enumerate(self.runs)]
        return (number_behind(self.scripts, len(self.text)), *parts, (rest[0], self.numbered(rest[1])))

    def numbered(self, entries):
        return tuple([each if isinstance(each, str) else self.numbers.setdefault(each, len(self.numbers)) for each in entries])

    def part(self, side, found):
        if found.has_ended:
            return None
        test = kept_test(self.scripts[side])
        window = self.numbered([self.entry(side, held) for held in found.window])
        store = self.numbered([self.entry(side, held) for held in found.store])
        answers = [() if test is None else (test.holds(held.line),) for held in found.store]
        return (found.place, found.opened(), tuple([held.line for held in found.later]), window, tuple(zip(store, answers)))


class OutlookTest(unittest.TestCase):
    def test_examples_of_section_7(self):
        self.assertEqual(outlook(Script(Keep(), store=1), Script(), ["x"]),
                         (1, (0, (), (), (), ((0, ()),)), (0, (), (), (), ()), (0, ())))
        self.assertEqual(outlook(Script(Drop(at=Not(Last())), store=1), Script(Later("b")), []),
                         (0, (0, (), (), (), ()), (0, (), (), (), ()), (0, ())))

    def check(self, one, other, text):
        found = outlook(one, other, text)
        self.assertEqual(found, Plainly(one, other, text).outlook())
        self.assertEqual(outlook(text=tuple(text), other=other, one=one), found)
        return found

    def test_many_pairs(self):
        pairs = ALIKE + [pair[:2] for pair in UNLIKE] + made_pairs(range(800, 860))
        nothing = 0
        for seed, (one, other) in enumerate(pairs):
            chance = random.Random(seed)
            lines = few_lines(2, one, other)
            for many in (0, 1, 2, 3, 4, 6):
                nothing += self.check(one, other, [chance.choice(lines) for _ in range(many)]) is None
        self.assertGreater(nothing, 20)

    def test_known_ones(self):
        keep = Script(Keep(), Keep(at=If(Has("a"))), store=2, is_quiet=True)
        for one, other, text, expected in (
                (Script(), Script(is_quiet=True), ["x"], (1, (0, (), (), (), ()), (0, (), (), (), ()), (0, (0,)))),
                (Script(is_quiet=True), Script(), ["x", "y"], (1, (0, (), (), (), ()), (0, (), (), (), ()), (1, (0, 1)))),
                (Script(Stop()), Script(is_quiet=True), ["x"], (1, None, (0, (), (), (), ()), (0, (0,)))),
                (Script(Leave()), Script(Stop(), is_quiet=True), ["x", "y"], (1, None, None, (0, ()))),
                (Script(Tell("a")), Script(Tell("b")), ["x"], None), (Script(Tell("a")), Script(Tell("a")), ["x"],
                                                                    (1, (0, (), (), (), ()), (0, (), (), (), ()), (0, ()))),
                (Script(Tell("a"), is_quiet=True), Script(is_quiet=True), [""], (1, (0, (), (), (), ()), (0, (), (), (), ()), (0, ("a",)))),
                (Script(Read(), window=3), Script(Later("l"), Read(), window=2), ["x"],
                 (1, (1, (), (), (0,), ()), (2, (), ("l",), (0,), ()), (0, ()))),
                (Script(Later("a"), Later("b"), Later("c"), Later("b"), Read(), window=2), Script(Tell("z"), Later("y"), Later("x"), Read(), is_quiet=True), ["l"],
                 (1, (5, (), ("a", "b", "c", "b"), (0,), ()), (4, (), ("y", "x"), (0,), ()), (1, ("z",)))),
                (Script(Slide(), window=3), keep, ["b", "ba"], (1, (0, (), (), (), ()), (0, (), (), (), ((0, ()), (0, ()))), (0, ()))),
                (Script(Slide(), window=3), Script(Slide(at=Number(1)), window=3, is_quiet=True), ["x", "y"],
                 (2, (0, (), (), (), ()), (0, (), (), (), ()), (0, ()))),
                (Script(Read(at=Number(1)), Slide(), window=3), Script(Drop()), ["x", "y"],
                 (2, (0, (), (), (0,), ()), (0, (), (), (), ()), (0, ()))),
                (Script(Keep(), Drop(), store=2), Script(Keep(), Tell("k", at=Kept(Begins("x"))), Drop(), store=2), ["a", "x"],
                 (1, (0, (), (), (), ((0, ()), (1, ()))), (0, (), (), (), ((0, (False,)), (1, (True,)))), (1, ("k",)))),
                (Script(Print(at=Range(Number(2), Count(3)))), Script(Print(at=Range(Number(2), Count(3)))), ["x", "y", "z"],
                 (3, (0, (2,), (), (), ()), (0, (2,), (), (), ()), (0, ()))),
                (Script(Print(at=Each(2, 1))), Script(Print(at=Each(3, 2)), is_quiet=True), ["x"] * 9, None),
                (Script(Drop(at=Each(2, 1)), is_quiet=True), Script(Drop(at=Each(3, 2))), ["x"] * 9,
                 (3, (0, (), (), (), ()), (0, (), (), (), ()), (1, (0, 1, 2, 3, 4, 5))))):
            self.assertEqual(self.check(one, other, text), expected)
        self.assertEqual(outlook(Script(is_quiet=True), Script(Drop(), is_quiet=True), ["x"] * 100)[0], 1)
        quiet = Script(Drop(at=Each(2, 1)), is_quiet=True), Script(Drop(at=Each(3, 3)), is_quiet=True)
        self.assertEqual([outlook(*quiet, ["x"] * many)[0] for many in range(13)], [0, 1, 2, 3, 4, 5, 6, 7, 8, 9, 4, 5, 6])

    def test_entries_that_stand_in_both(self):
        # A line that both hold, changed and not; fixed ones; ones that are equal by their classes alone.
        one = Script(Keep(), Change(First("a", "b")), Keep(), Drop(), store=2)
        other = Script(Keep(), Change(Every("a", "b")), Keep(), Drop(), store=2)
        for text, expected in ((["c"], ((0, ()), (0, ()))), (["a"], ((0, ()), (1, ())))):
            self.assertEqual(self.check(one, one, text)[1][4], ((0, ()), (1, ())))
            self.assertEqual(self.check(one, other, text)[2][4], ((0, ()), (2, ())))
        part = Script(Keep(at=If(Has("a"))), Change(First("a", "b")), Keep(), Drop(), store=2)
        self.assertEqual(self.check(part, part, ["c"])[1][4], ((0, ()),))
        self.assertEqual(self.check(part, part, ["a"])[1][4], ((0, ()), (1, ())))
        told = Script(Keep(at=If(Is("a"))), Tell("a", at=If(Is("b"))), Drop(), store=1)
        self.assertEqual(self.check(told, Script(Drop()), ["a", "b", "c"]),
                         (1, (0, (), (), (), (("a", ()),)), (0, (), (), (), ()), (0, ("a",))))
        swap = Script(Change(Swap("ab", "ba"), at=If(Is("ab"))), Keep(), Drop(), store=1)
        self.assertEqual(self.check(swap, swap, ["ab"])[1][4], (("ba", ()),))
        endless = Script(Change(Every("a", ""), at=If(Only("a"))), Change(Front("b")), Keep(), Drop(), store=1)
        self.assertEqual(self.check(endless, endless, ["aaa"])[2][4], (("b", ()),))

    def test_no_texts(self):
        for value in [*any_values(), "ab", ["a", 1], {"a": 1}]:
            if value not in ([], (), ["a"], ("a",), ("a", "b")):
                with self.assertRaises(InvalidText) as caught:
                    outlook(Script(), Script(), value)
                self.assertIs(caught.exception.value, value)


class ClosedTest(unittest.TestCase):
    def is_closed(self, one, other, value):
        """[64], told once more, for tuples of tuples of lines."""
        firsts = first_lines(one, other)
        told = [Plainly(one, other, list(text)).outlook() for text in value]
        for text in value:
            for line in firsts:
                if not Told(one, other).agree([*text, line]):
                    return False
                if Plainly(one, other, [*text, line]).outlook() not in told:
                    return False
        return () in value and len(set(value)) == len(value)

    def test_examples_of_section_7(self):
        self.assertEqual([is_closed_set(Script(Keep(), store=1), Script(), some) for some in (((), ("",)), ((),), ((), ("x",)))],
                         [True, False, True])

    def test_pairs(self):
        for one, other in ALIKE + [pair[:2] for pair in UNLIKE] + made_pairs(range(900, 960)):
            found = closed_set(one, other)
            self.assertEqual(found is None, alike(one, other) is not None)
            if found is None:
                self.assertFalse(is_closed_set(one, other, ((), *[(line,) for line in first_lines(one, other)])))
                continue
            self.check_found(one, other, found)

    def check_found(self, one, other, found):
        self.assertEqual({type(found)} | {type(text) for text in found}, {tuple})
        self.assertIn((), found)
        self.assertIs(is_closed_set(one, other, found), True)
        self.assertTrue(is_closed_set(value=found[::-1], other=other, one=one))
        # It shows the same for the scripts in the other order, as outlooks have two sides.
        self.assertTrue(is_closed_set(other, one, found))
        if len(found) < 12:
            self.assertTrue(self.is_closed(one, other, found))
        for at in range(min(len(found), 4)):
            self.assertFalse(is_closed_set(one, other, found[:at] + found[at + 1:]))
            self.assertFalse(is_closed_set(one, other, (*found, found[at])))
            self.assertFalse(is_closed_set(one, other, (*found[:at], list(found[at]), *found[at + 1:])))
            line = (*found[at], first_lines(one, other)[-1])
            if line not in found:
                self.assertTrue(is_closed_set(one, other, (*found, line)))

    def test_other_lines_of_the_same_classes(self):
        one, other = TAIL, Script(Keep(), Put(at=Last()), store=2, is_quiet=True)
        for value in (((), ("x",), ("x", "y")), ((), ("",), ("a", "a"), ("b",)), ((), ("ab",), ("", "", ""), ("", "", "", ""))):
            self.assertTrue(is_closed_set(one, other, value))
            self.assertEqual(is_closed_set(one, other, value), self.is_closed(one, other, value))
        for value in (((), ("x",)), (("x",), ("x", "y")), ((), ("x", "y"))):
            self.assertFalse(is_closed_set(one, other, value))

    def test_larger_than_need_be(self):
        one, other = SLOW, Script()
        found = closed_set(one, other)
        more = tuple(tuple(text) for text in texts_of(["", "a"], 4) if tuple(text) not in found)
        self.assertTrue(is_closed_set(one, other, (*found, *more)))
        self.assertTrue(is_closed_set(one, other, tuple(tuple(text) for text in texts_of(["", "a"], 4))))

    def test_unlike_scripts_have_none(self):
        for one, other, _ in UNLIKE:
            self.assertIsNone(closed_set(one=one, other=other))
            everything = tuple(tuple(text) for text in texts_of(first_lines(one, other), 2, 60))
            self.assertIs(is_closed_set(one, other, everything), False)

    def test_texts_that_part(self):
        one, other = Script(Tell("a")), Script(Tell("b"))
        self.assertIsNone(outlook(one, other, ["x"]))
        for value in ((("x",), ()), ((), ("x",)), (("x", "y"), ("x",), ())):
            self.assertIs(is_closed_set(one, other, value), False)

    def test_any_value(self):
        for value in [*any_values(), [()], ((), []), ((), ""), ((), "a"), ("", ()), ((), ("%",)), ((), (1,)), ((), ((),)), ((), None)]:
            self.assertIs(is_closed_set(Script(is_quiet=True), Script(Drop()), value), False)

    def test_equal_each_time(self):
        for one, other in ALIKE:
            self.assertEqual(closed_set(one, other), closed_set(one, other))

    def test_later_lines_and_ended_scripts(self):
        one = Script(Later("x"), Read(at=Not(Number(3))), Stop(at=Number(3)), window=2)
        other = Script(Read(at=Not(Number(3))), Later("x"), Stop(at=Number(3)), window=2)
        found = closed_set(one, other)
        self.assertEqual(found is None, alike(one, other) is not None)
        ended = Script(Print(), Leave(at=Each(2, 2)), Drop(), PutFirst()), Script(Stop(at=Number(2)))
        self.assertIsNone(alike(*ended))
        self.check_found(*ended, closed_set(*ended))
        self.assertIsNone(closed_set(Script(Put()), Script(Tell("a", at=Any()))))


if __name__ == "__main__":
    unittest.main()
