"""[70] to [72]: how late lines are printed, what is sure, and what must be kept."""

import random
import unittest

from linestream.changes import Every, Front, Swap
from linestream.classes import cases_of, classes
from linestream.conditions import Begins, Fails, Has, Is, Only
from linestream.errors import InvalidText
from linestream.lateness import keeps, late, must_keep, sure
from linestream.linesets import is_endless_on, parted_on, result_on
from linestream.running import origins, run
from linestream.scripts import (
    Any, Change, Changed, Count, Drop, Each, Forget, ForgetFirst, If, Keep, Kept, Last, Later, Leave, Not, Number, Print,
    PrintFirst, Put, PutFirst, Range, Read, Script, Skip, Slide, Stop, Tell)
from linestream.texts import read_script
from tests.bounded import few_lines, first_lines, made, texts_of
from tests.plainly import Plain
from tests.samples import any_values

NO = Not(Any())
TAIL = Script(Keep(), Put(at=Last()), store=2, is_quiet=True)
SLOW = Script(Read(at=Number(1)), PrintFirst(at=Not(Last())), Slide(at=Not(Last())), window=2)
HEAD = Script(Keep(at=Number(1)), Put(at=Last()), store=1, is_quiet=True)


class ExamplesTest(unittest.TestCase):
    def test_examples_of_section_8(self):
        text = ["a", "b", "c"]
        self.assertEqual([run(TAIL, text), sure(TAIL, text), must_keep(TAIL)[0], keeps(TAIL)[0]], [["b", "c"], [], 2, 2])
        self.assertEqual([run(SLOW, text), sure(SLOW, ["a", "b"]), must_keep(SLOW), keeps(SLOW)[0]],
                         [["a", "b", "c"], ["a", "b"], (0, []), 1])
        self.assertEqual([sure(HEAD, ["a"]), sure(HEAD, ["a", "b"]), must_keep(HEAD), keeps(HEAD)[0]],
                         [["a"], ["a"], (0, []), 1])
        self.assertEqual([late(Script())[0], late(SLOW)[0], late(HEAD)[0]], [0, 1, None])


class LateTest(unittest.TestCase):
    def check(self, script):
        found = late(script)
        self.assertEqual(late(script=script), found)
        texts = texts_of(first_lines(script), 6, 400)
        most = max(Plain(script, text).late_most for text in texts)
        if found is None:
            self.assertEqual(most, -1)
            return None
        number, shown = found
        self.assertIs(type(found), tuple)
        if number is None:
            self.assertEqual([type(shown)] + [type(lines) for lines in shown], [tuple, list, list, list])
            ahead, loop, behind = shown
            self.assertTrue(loop)
            for many in (1, 2, 3, 5, 20):
                self.assertGreaterEqual(Plain(script, ahead + loop * many + behind).late_most, many)
            return None
        self.assertEqual([type(number), type(shown)], [int, list])
        self.assertEqual(Plain(script, shown).late_most, number)
        self.assertGreaterEqual(number, most)
        shorter = [text for text in texts if Plain(script, text).late_most == number]
        self.assertTrue(not shorter or len(shorter[0]) == len(shown))
        self.assertTrue(shorter or len(shown) > len(texts[-1]))
        return number

    def test_made_scripts(self):
        for _, script in made(range(1000, 1120)):
            self.check(script)

    def test_known_ones(self):
        for script, expected in (
                (Script(Tell("a"), is_quiet=True), "told"), (Script(Drop()), "told"), (Script(Later("a"), Drop()), "told"),
                (Script(Keep(), Put(at=NO), store=1, is_quiet=True), "told"), (Script(), (0, 1)), (Script(Drop(at=Last())), (0, 2)),
                (Script(Print(at=Number(3)), is_quiet=True), (0, 3)), (SLOW, (1, 2)), (HEAD, "loop"), (TAIL, (1, 2)),
                (Script(Read(), Read(), window=3), (2, 3)), (Script(Slide(at=Not(Number(3))), window=3), (0, 3)),
                (Script(Slide(at=Not(Each(3, 3))), Read(at=Number(1)), window=3), None),
                (Script(Keep(at=Number(1)), Put(at=Number(3)), store=1, is_quiet=True), (2, 3)),
                (Script(Keep(at=Number(1)), Put(at=Each(3, 3)), Forget(at=Number(3)), store=1, is_quiet=True), (2, 3)),
                (Script(Keep(at=Number(1)), Put(at=If(Is("ab"))), store=1, is_quiet=True), "loop"),
                (Script(Keep(), PutFirst(at=Each(2, 2)), ForgetFirst(at=Each(2, 2)), store=2, is_quiet=True), None),
                (Script(Keep(at=If(Has("a"))), Put(at=Last()), store=2, is_quiet=True), "loop"),
                (Script(Keep(), Drop(at=Kept(Is("a"))), Put(), store=2), None), (Script(Print(at=Last()), is_quiet=True), (0, 1)),
                # A line that is only looked at does not count.
                (Script(Read(), window=2), (1, 2)), (Script(Read(), Drop(at=Not(Last())), window=2), (1, 2)),
                (Script(Stop(at=Last())), (0, 1)), (Script(Keep(), Put(at=Not(Last())), Forget(), store=1, is_quiet=True), (0, 2)),
                (Script(Keep(), Put(at=Range(Number(2), Count(2))), Keep(at=NO), store=2, is_quiet=True), (1, 2)),
                (Script(Leave(), Print()), "told"), (Script(Keep(at=Number(2)), Stop(at=Number(3)), Put(at=Last()), store=1), (0, 1)),
                (Script(Keep(at=Number(2)), Put(at=Last()), Stop(at=Each(3, 3)), store=1), (1, 3)),
                (Script(Keep(at=Number(1)), Drop(at=Number(1)), Put(at=Each(3, 1)), Stop(at=Each(3, 1)), store=1, is_quiet=True), (3, 4)),
                (read_script(FAR), (12, 16))):
            number = self.check(script)
            if expected == "told":
                self.assertIsNone(late(script))
            elif expected == "loop":
                self.assertIsNone(late(script)[0])
            elif expected is not None:
                self.assertEqual((number, len(late(script)[1])), expected)


# A line is held over many rounds.
FAR = ["window 1 store 2 quiet", "read", "putfirst at kept", "slide at changed", "keep at each 3 1", 'keep at if begins "ba"', "slide at changed",
       'change first "ba" "c" at if both ends "aa" fails begins "b"', "read at range not any each 1 2"]

# Scripts, as they are written, of which lines are decided that are not printed yet; with what must_keep tells.
DECIDED = [
    (['window 2 store 1', 'putfirst at if ends "aa"', 'keep', 'skip 3 at not number 2', 'slide at last', 'putfirst at not number 2', 'change swap "a" "b"', 'change first "a" "a"', 'read at not last'], (1, 1)),
    (['window 2 store 1', 'putfirst at not number 3', 'read at not number 2', 'printfirst at not last', 'keep at range if either is "b" only "ab" count 3', 'keep at not number 1', 'read at not number 1'], (1, 2)),
    (['window 2 store 1', 'put at each 2 2', 'slide at if only ""', 'forget at number 2', 'keep at if fails ends "ba"', 'keep at kept', 'later "b" at each 3 2', 'put at last', 'print at not number 1'], (1, 1)),
    (['window 1 store 1', 'keep', 'read at if ends "ab"', 'putfirst at not number 3'], (1, 2)),
    (['window 2 store 1 quiet', 'keep', 'read at not last', 'read at not last', 'putfirst at kept'], (0, 0)),
    (['window 2 store 1', 'put at if ends "ba"', 'keep at number 1', 'keep at if has "aa"', 'forget at last', 'read at range not number 2 count 3', 'read at not last', 'put at not number 2', 'printfirst at not number 1'], (3, 5)),
    (['window 1 store 1 quiet', 'tell "b" at last', 'putfirst at last', 'keep'], (2, 2)),
    (['window 2 store 1', 'read at if has "aa"', 'change every "b" "" at number 1', 'skip 1 at not number 3', 'keep', 'stop at if fails is "ab"', 'print at last', 'put at if fails only ""', 'slide at number 3'], (1, 1)),
    (['window 2 store 1 quiet', 'slide at not number 1', 'change every "b" "a" at not number 2', 'keep at not number 2', 'read at not last', 'putfirst at not number 3', 'forget at last', 'skip 1 at not number 3', 'putfirst at each 1 3'], (0, 0)),
    (['window 2 store 1', 'keep at if has "aa"', 'keep', 'forgetfirst at range last kept is "a"', 'read at not number 3', 'put at last', 'leave at last', 'change behind "a" at not number 2'], (1, 2)),
    (['window 2 store 1', 'keep at not last', 'printfirst at not number 2', 'read at not number 2', 'forget at if only "ab"', 'putfirst at if either fails only "" has "aa"', 'stop at not number 1', 'read at not number 2'], (1, 1)),
    (['window 2 store 1 quiet', 'putfirst at if fails has "a"', 'change every "aa" "ab"', 'putfirst at range if fails is "ab" count 3', 'keep', 'print at last', 'slide at not number 3', 'drop at not number 1', 'read at not last'], (1, 1)),
    (['window 2 store 1', 'keep at number 2', 'slide at number 3', 'change every "aa" "ab"', 'read at each 3 1', 'putfirst at not number 2', 'stop at kept', 'change first "aa" "" at not number 2', 'print at not number 2'], (1, 4)),
    (['window 2 store 1', 'forgetfirst at each 2 1', 'putfirst at not number 2', 'printfirst at not number 2', 'keep at range if is "ab" number 3', 'keep at not last', 'read at not number 2', 'putfirst at not number 2'], (1, 3)),
    (['window 2 store 1', 'put at not last', 'put at last', 'read at if begins "ba"', 'keep at range last count 3', 'keep at each 2 3', 'drop at number 2', 'print at not number 2'], (2, 5)),
    (['window 1 store 2 quiet', 'skip 1 at if is "a"', 'put at last', 'putfirst', 'keep', 'keep at if is "a"'], (3, 3)),
    (['window 1 store 2 quiet', 'keep at changed', 'keep', 'put at last', 'putfirst', 'tell "" at if is ""'], (2, 2)),
    (['window 1 store 2', 'keep', 'put at each 2 2', 'read at number 1', 'putfirst'], (1, 1)),
    (['window 2 store 0', 'putfirst', 'read at number 1', 'print', 'later "b" at kept is "b"'], (1, 1)),
    (["window 1 store 1 quiet", "keep at number 1", "skip 2 at not last", "put", "put at each 1 3"], (1, 1)),
    (['window 1 store 2', 'drop at each 2 2', 'putfirst at if either has "aa" fails is "a"', 'later "a" at not number 1', 'change first "ba" "b"', 'put at not kept', 'keep', 'change every "ab" "ab" at not number 1'], (2, 3)),
    (['window 1 store 2', 'keep', 'read at not last', 'read at not number 3', 'forget at last', 'putfirst at not last', 'later "a" at not number 2', 'putfirst at if only ""'], (3, 5)),
    (['window 1 store 2 quiet', 'change every "a" ""', 'putfirst at each 2 1', 'drop at each 2 2', 'put at kept is ""', 'change swap "a" "a"', 'keep at not number 1'], (2, 5)),
    (['window 1 store 2', 'skip 1 at each 1 3', 'printfirst at not number 1', 'keep at if only "a"', 'put at number 3', 'putfirst at if is "b"', 'read at if fails begins "ab"'], (3, 5)),
    (['window 2 store 1 quiet', 'tell "b" at kept', 'put at if both ends "bb" only "ab"', 'later "a" at not range kept only "a" last', 'keep', 'keep', 'read', 'slide'], (1, 1)),
    (['window 1 store 2 quiet', 'putfirst', 'later "" at if fails has "a"', 'change swap "a" "a"', 'keep at if fails ends "b"', 'read at not kept ends "ba"'], (2, 2)),
    (['window 1 store 2 quiet', 'tell "b" at not range kept kept only "a"', 'later "a" at kept', 'keep at if fails ends "bb"', 'skip 3 at if begins "ab"', 'later "b"', 'put at kept', 'change behind "a" at kept', 'read'], (2, 3)),
    # Behind decided lines of two rounds, and printed there alone.
    (['window 1 store 1 quiet', 'keep at number 1', 'tell "x" at not number 1', 'skip 1 at not last', 'tell "x" at number 1', 'tell "x" at last', 'put at number 3', 'forget at number 3'], (1, 1)),
]


def begins_with(texts_printed):
    """How many lines all of some lists have in common at their beginning."""
    first = texts_printed[0]
    many = len(first)
    for lines in texts_printed:
        at = 0
        while at < min(many, len(lines)) and lines[at] == first[at]:
            at += 1
        many = at
    return many


class SureTest(unittest.TestCase):
    def check(self, script, text, lines, most=4):
        found = sure(script, text)
        self.assertIs(type(found), list)
        self.assertEqual(sure(text=tuple(text), script=script), found)
        printed = [run(script, text + more) for more in texts_of(lines, most, 260)]
        common = begins_with(printed)
        self.assertEqual(found, printed[0][:len(found)])
        self.assertLessEqual(len(found), common)
        return len(found) == common

    def test_made_scripts(self):
        exact = []
        for seed, script in made(range(1200, 1290)):
            lines = few_lines(2, script)
            chance = random.Random(seed)
            for many in (0, 1, 1, 2, 3):
                exact.append(self.check(script, [chance.choice([*lines, "a", "ab"]) for _ in range(many)], lines))
        # Few need more lines behind the text to show what is not sure.
        self.assertGreater(exact.count(True), 0.98 * len(exact))

    def test_known_ones(self):
        once = Script(Keep(at=Number(1)), Put(at=Last()), Tell("x", at=Last()), store=1, is_quiet=True)
        for script, text, expected in (
                (Script(), [], []), (Script(), ["a"], ["a"]), (Script(), ["a", "b"], ["a", "b"]), (Script(is_quiet=True), ["a"], []),
                (Script(Tell("x", at=Last())), ["a"], []), (Script(Print(), Tell("x", at=Last()), is_quiet=True), ["a"], ["a"]),
                (Script(Later("x"), is_quiet=True), ["a", "b"], ["x", "x"]), (Script(Tell("x", at=Last())), ["a", "b"], ["a"]),
                (Script(Tell("x", at=Last()), is_quiet=True), ["a", "b"], ["x"]), (Script(Tell("x", at=Last()), is_quiet=True), [], []),
                (Script(Stop(at=Number(2))), ["a", "b", "c"], ["a", "b"]), (Script(Leave()), ["a", "b"], []),
                (Script(Leave(at=Number(2)), Keep(), Put(), store=1), ["a", "b", "c"], ["a", "a"]), (once, ["a"], ["a", "x"]),
                (once, ["a", "b", "c"], ["a", "x"]), (Script(Read(), window=2), ["a"], ["a"]), (Script(Read(), window=1), ["a"], []),
                (Script(Read(), window=1), ["a", "b"], ["b"]), (Script(Keep(), Put(at=Last()), Put(at=NO), store=1), ["a"], ["a"]),
                # Stores that are printed in two ways.
                (Script(Keep(), Put(at=If(Has("a"))), PutFirst(at=Last()), store=2, is_quiet=True), ["b", "b"], []),
                (Script(Keep(at=Not(Number(3))), Put(at=Number(3)), PutFirst(at=Last()), store=2, is_quiet=True), ["p", "q"], ["p"]),
                # Lines that are alike by chance alone.
                (Script(Keep(at=If(Is("a"))), Put(at=Last()), store=1, is_quiet=True), ["a"], ["a"]),
                (Script(Keep(at=If(Has("a"))), Put(at=Last()), store=1, is_quiet=True), ["a"], []),
                (Script(Tell("a", at=Last()), Drop(at=Not(If(Is("a"))))), [], []),
                (Script(Change(Every("a", ""), at=If(Only("a"))), Drop(at=Not(If(Only("a")))), Tell("", at=Not(Last()))), ["aa"], [""]),
                (Script(Change(Swap("a", "b"), at=If(Is("a"))), Keep(at=Changed()), Put(at=Last()), Drop(), store=1), ["a"], ["b"]),
                (Script(Print(at=Last()), is_quiet=True), ["a", "a"], []), (Script(Tell("a", at=Last()), is_quiet=True), ["b"], ["a"]),
                # What the end alone prints, and what further lines print in its place.
                (Script(Tell("x", at=Last()), Tell("x", at=Number(2)), is_quiet=True), ["a"], ["x"]),
                (Script(Tell("x", at=Last()), Tell("y", at=Number(2)), is_quiet=True), ["a"], []),
                (Script(Tell("x", at=Last()), Tell("x", at=Each(3, 3)), Tell("y", at=Last()), is_quiet=True), ["a"], ["x"]),
                (Script(Print(), Stop(at=Last()), Drop()), ["a"], ["a"]),
                # What is printed if further lines follow parts from it, whatever is printed behind that.
                (Script(Skip(1, at=Last()), Tell("a", at=Number(1)), Tell("b", at=Last()), is_quiet=True), ["x"], []),
                (Script(Skip(1, at=Last()), Leave(at=Number(1)), Tell("b", at=Last()), is_quiet=True), ["x"], []),
                (Script(Skip(1, at=Last()), Stop(at=Number(2)), Tell("b", at=Last()), is_quiet=True), ["x", "y"], [])):
            self.assertEqual(sure(script, text), expected)
            self.assertTrue(self.check(script, text, few_lines(2, script)))

    def test_no_texts(self):
        for value in [*any_values(), "ab", ["a", 1], {"a": 1}]:
            if value not in ([], (), ["a"], ("a",), ("a", "b")):
                with self.assertRaises(InvalidText) as caught:
                    sure(Script(), value)
                self.assertIs(caught.exception.value, value)

    def test_long_text(self):
        self.assertEqual(sure(SLOW, ["a", "b"] * 300), ["a", "b"] * 300)
        self.assertEqual(sure(Script(Tell("x", at=Each(3, 2))), ["a"] * 11), run(Script(Tell("x", at=Each(3, 2))), ["a"] * 11))


class Needed:
    """[72] told once more, by all texts of few lines that go on."""

    def __init__(self, script):
        self.script = script
        self.kinds = classes(cases_of(script))
        self.firsts = [lines.least for lines in self.kinds]
        self.entries, self.endless = {}, {}

    def entry(self, text, origin):
        """A line if it is fixed, otherwise a tuple: equal for lines that are the same."""
        number, indexes = origin
        if number == 0:
            return self.script.commands[indexes[0]].line
        kind = self.firsts.index(text[number - 1])
        key = (kind, indexes)
        if key not in self.entries:
            changes = [self.script.commands[index].change for index in indexes]
            self.endless[key] = is_endless_on(changes, self.kinds[kind])
            self.entries[key] = result_on(changes, self.kinds[kind])
            if self.entries[key] is None:
                same = [each for each in self.entries.values() if isinstance(each, tuple) and each[0] == kind
                        and parted_on(changes, each[1], self.kinds[kind]) is None]
                self.entries[key] = same[0] if same else (kind, changes)
        found = self.entries[key]
        return found if isinstance(found, str) else (number, found)

    def many(self, text, most=5, cap=150):
        """How many lines are needed after a text."""
        rows = []
        for more in texts_of(self.firsts, most, cap):
            whole = text + more
            rows.append((whole, origins(self.script, whole)))
        printed = [[self.entry(whole, origin) for origin in found] for whole, found in rows]
        decided = begins_with(printed)
        return len({origin[0] for whole, found in rows for origin in found[decided:] if 0 < origin[0] <= len(text)
                    and self.endless[(self.firsts.index(whole[origin[0] - 1]), origin[1])]})


class KeepTest(unittest.TestCase):
    def check(self, script):
        number, text = must_keep(script)
        self.assertEqual(must_keep(script=script), (number, text))
        self.assertEqual([type(number), type(text)], [int, list])
        needed = Needed(script)
        if len(needed.firsts) <= 5:
            self.assertEqual(needed.many(text, 6, 300), number)
            for each in texts_of(needed.firsts, 3, 30):
                many = needed.many(each)
                self.assertTrue(many < number or many == number and len(each) >= len(text))
        return number, len(text)

    def test_made_scripts(self):
        for _, script in made(range(1300, 1400)):
            self.check(script)

    def test_known_ones(self):
        for script, expected in (
                (Script(), (0, 0)), (Script(is_quiet=True), (0, 0)), (TAIL, (2, 2)), (SLOW, (0, 0)), (HEAD, (0, 0)),
                (Script(Keep(), Put(at=Last()), store=1, is_quiet=True), (1, 1)), (Script(Print(at=Last()), is_quiet=True), (1, 1)),
                (Script(Tell("x", at=Last())), (1, 1)), (Script(Read(), window=2), (0, 0)), (Script(Read(), PrintFirst(), window=2, is_quiet=True), (1, 1)),
                (Script(Read(), Tell("x"), window=2), (1, 1)), (Script(Read(), Read(), Tell("x"), window=3), (2, 2)),
                # Constant classes, and changes with finitely many results.
                (Script(Keep(at=If(Is("a"))), Put(at=Last()), store=2, is_quiet=True), (0, 0)),
                (Script(Change(Every("a", "")), Keep(at=If(Only("a"))), Put(at=Last()), store=2, is_quiet=True), (0, 0)),
                (Script(Keep(at=If(Has("a"))), Put(at=Last()), store=2, is_quiet=True), (2, 2)),
                (Script(Change(Swap("a", "b"), at=If(Is("a"))), Keep(at=Changed()), Put(at=Last()), store=1, is_quiet=True), (0, 0)),
                # Lines in the store that are only looked at.
                (Script(Keep(), Tell("x", at=Kept(Has("a"))), Drop(), store=2), (0, 0)), (Script(Keep(), Print(at=Kept()), Drop(), store=2), (0, 0)),
                (Script(Keep(), Drop(at=Not(Last())), Print(), Tell("x", at=Kept(Is("a"))), store=2), (1, 1)),
                # Put twice, in the store twice, changed in the window.
                (Script(Keep(), Keep(), Put(at=Last()), store=2, is_quiet=True), (1, 1)),
                (Script(Keep(), Change(Front("a")), Keep(), PutFirst(at=Last()), store=2, is_quiet=True), (1, 1)),
                (Script(Keep(), Read(), Put(), window=2, store=1, is_quiet=True), (1, 1)),
                (Script(Keep(), PutFirst(at=Not(Last())), Put(at=Last()), store=2, is_quiet=True), (1, 1)),
                # Over several readings in the window.
                (Script(Read(), Read(), Print(at=Last()), window=3, is_quiet=True), (3, 3)),
                (Script(Read(at=Number(1)), Slide(at=Number(2)), PrintFirst(at=Number(3)), window=3, is_quiet=True), (1, 2)),
                (Script(Slide(at=Not(Number(3))), PrintFirst(at=Number(3)), window=3, is_quiet=True), (0, 0))):
            self.assertEqual(self.check(script), expected)

    def test_lines_that_are_decided_ahead(self):
        for text, expected in DECIDED:
            self.assertEqual(self.check(read_script(text)), expected)

    def test_keeps(self):
        for script in [script for _, script in made(range(1400, 1500))]:
            number, text = keeps(script=script)
            most = [max(Plain(script, each).held_ahead, default=0) for each in texts_of(first_lines(script), 5, 300)]
            self.assertGreaterEqual(number, max(most))
            if number == 0:
                self.assertEqual(text, [])
                continue
            plain = Plain(script, text)
            self.assertEqual([len(plain.held_ahead), plain.held_ahead[-1]], [len(text), number])
            shown = [each for each, many in zip(texts_of(first_lines(script), 5, 300), most) if many == number]
            self.assertTrue(not shown or len(shown[0]) == len(text))

    def test_keeps_known_ones(self):
        for script, expected in (
                (Script(), (0, 0)), (Script(Keep(), store=0), (0, 0)), (Script(Keep(), Forget(), store=1), (0, 0)), (TAIL, (2, 3)), (SLOW, (1, 2)),
                (HEAD, (1, 2)), (Script(Keep(), Keep(), store=2), (2, 2)), (Script(Read(), window=1), (1, 2)), (Script(Read(), Read(), window=3), (2, 3)),
                (Script(Keep(), Read(), window=2, store=1), (2, 2)), (Script(Keep(), Slide(), window=2, store=1), (1, 2)),
                (Script(Keep(at=Number(3)), store=1), (1, 4)), (Script(Keep(), Read(at=Number(3)), window=1, store=2), (3, 4)),
                (Script(Keep(), Stop(), store=1), (0, 0)), (Script(Keep(), Leave(at=Number(1)), store=1), (0, 0)),
                (Script(Keep(at=Last()), store=1), (0, 0)), (Script(Keep(at=Last()), Put(), store=2), (0, 0)),
                (Script(Keep(at=If(Begins("a"))), Skip(1, at=If(Fails(Has("a")))), ForgetFirst(), store=1), (0, 0))):
            number, text = keeps(script)
            self.assertEqual((number, len(text)), expected)

    def test_what_is_returned_is_new(self):
        for ask in (lambda: late(Script())[1], lambda: sure(Script(), ["a"]), lambda: must_keep(TAIL)[1], lambda: keeps(TAIL)[1],
                    lambda: late(HEAD)[1][1]):
            one, other = ask(), ask()
            self.assertEqual(one, other)
            one.append("x")
            self.assertEqual(ask(), other)
        text = ["a"]
        self.assertIsNot(sure(Script(), text), text)


if __name__ == "__main__":
    unittest.main()
