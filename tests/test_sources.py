"""[73], [74]: scripts that only select lines, and texts from which something is printed."""

import random
import unittest

from linestream.changes import Behind, Every, First, Front, Swap
from linestream.classes import cases_of, classes
from linestream.conditions import Begins, Ends, Fails, Has, Is, Only
from linestream.errors import InvalidText, TooMany
from linestream.running import origins, run
from linestream.scripts import (
    Change, Changed, Drop, Each, If, Keep, Kept, Last, Later, Leave, Not, Number, Print, PrintFirst, Put, PutFirst,
    Read, Script, Skip, Slide, Stop, Tell)
from linestream.sources import selection, source
from tests.bounded import few_lines, made, texts_of
from tests.samples import any_values, lines_of

TAIL = Script(Keep(), Put(at=Last()), store=2, is_quiet=True)
HEAD = Script(Keep(at=Number(1)), Put(at=Last()), store=1, is_quiet=True)


def does_select(script, text):
    """[73]."""
    numbers = [number for number, _ in origins(script, text)]
    if 0 in numbers or any(one >= other for one, other in zip(numbers, numbers[1:])):
        return False
    return run(script, text) == [text[number - 1] for number in numbers]


class SelectionTest(unittest.TestCase):
    def test_examples_of_section_8(self):
        self.assertEqual([selection(TAIL), len(selection(Script(Print())))], [None, 1])

    def check(self, script):
        text = selection(script)
        others = [each for each in texts_of(few_lines(2, script), 5, 500) if not does_select(script, each)]
        if text is None:
            self.assertEqual(others, [])
            return None
        self.assertIs(type(text), list)
        self.assertFalse(does_select(script, text))
        self.assertTrue(not others or len(text) <= len(others[0]))
        self.assertEqual(selection(script=script), text)
        return len(text)

    def test_made_scripts(self):
        for _, script in made(range(1600, 1750)):
            self.check(script)

    def test_each_way_not_to_select(self):
        for script, expected in (
                (Script(), None), (Script(is_quiet=True), None), (Script(Drop(at=If(Has("a")))), None), (Script(Slide(at=Last()), window=3), None),
                (Script(Slide(), window=3), None), (Script(Slide(at=Not(Number(2))), window=3), None), (Script(Skip(1), Print()), None),
                (Script(Read(at=Each(2, 1)), window=2), None), (Script(Read(), Read(), window=3), None), (Script(Tell("x", at=Not(Number(1))), Read(), Read(), window=3), 4),
                (Script(Keep(), Drop(at=Not(Last())), Put(), Drop(), store=2), None),
                (Script(Read(), Keep(), Drop(at=Not(Last())), Put(), Drop(), window=1, store=2), None), (Script(Stop(at=Number(2))), None), (Script(Leave(at=If(Is("a")))), None),
                (TAIL, None), (HEAD, None), (Script(Keep(), PutFirst(at=Last()), Drop(), store=2), None),
                # A told line.
                (Script(Tell("a", at=Last())), 1), (Script(Tell("a", at=Number(3))), 3), (Script(Later("a"), Leave()), None),
                (Script(Later("a", at=Each(3, 2)), Leave(at=Number(2))), None), (Script(Later("a", at=Each(3, 2)), Leave(at=Number(3))), 2), (Script(Later("a"), Leave(at=Number(1))), None), (Script(Later("a")), 1),
                # A line twice.
                (Script(Print()), 1), (Script(Print(at=Number(2))), 2), (Script(Keep(), Put(), store=1), 1), (Script(Keep(), Put(), Drop(), store=2), 2),
                (Script(Keep(), PutFirst(at=Not(Last())), Drop(), store=1), None), (Script(Keep(), PutFirst(), Drop(), store=2), 2),
                (Script(Slide(at=Not(Last())), PrintFirst(), window=2, is_quiet=True), None), (Script(Keep(), Keep(), Put(), Drop(), store=2), 1),
                # Lines in another order.
                (Script(Keep(), Drop(at=Number(1)), Put(at=Number(3)), store=1), 3), (Script(Keep(at=Number(1)), Drop(at=Number(1)), Put(at=Number(3)), store=1), 3),
                (Script(Keep(at=Number(1)), Drop(at=Number(1)), Put(at=Number(2)), store=1), None),
                (Script(Print(at=Number(2)), Keep(at=Number(1)), Put(at=Number(2)), Drop(), store=1), 2),
                (Script(Keep(at=Number(1)), Drop(at=Number(1)), Drop(at=Not(Last())), Print(), Put(), Drop(), store=1), 2),
                # A changed line, and one that is left as it was.
                (Script(Change(First("a", "b"))), 1), (Script(Change(First("a", "b"), at=If(Fails(Has("a"))))), None), (Script(Change(Swap("a", "a"))), None),
                (Script(Change(First("a", "a")), Change(Every("b", "b"))), None), (Script(Change(Front("a")), Change(First("a", ""))), None),
                (Script(Change(Front("a")), Change(First("b", ""))), 1), (Script(Change(Every("a", "b")), Drop(at=Changed())), None),
                (Script(Change(Every("a", "b")), Drop(at=Not(Changed()))), 1), (Script(Change(Behind("a")), Drop(at=Not(If(Is("a"))))), 1),
                (Script(Change(First("a", "b")), Drop()), None), (Script(Keep(), Change(Front("a")), Put(), Drop(), store=1), None),
                (Script(Change(Front("a"), at=Number(2)), Keep(), Put(at=Number(3)), Drop(), store=2), 3), (Script(Change(First("ab", ""), at=If(Only("a")))), None)):
            self.assertEqual(self.check(script), expected)

    def test_shown_by_another_line_of_the_class(self):
        for change in (First("a", "b"), Every("ab", "b"), Swap("z", "y"), First("aa", "a")):
            text = selection(Script(Change(change)))
            self.assertNotEqual(run(Script(Change(change)), text), text)
        text = selection(Script(Change(First("b", "a")), Drop(at=Not(If(Begins("a"))))))
        self.assertFalse(does_select(Script(Change(First("b", "a")), Drop(at=Not(If(Begins("a"))))), text))


class SourceTest(unittest.TestCase):
    def test_examples_of_section_8(self):
        self.assertEqual([source(TAIL, ["x"]), source(HEAD, ["x", "y"])], [["x"], None])

    def check(self, script, printed, lines, most=5):
        text = source(script, printed)
        self.assertEqual(source(printed=tuple(printed), script=script), text)
        found = [each for each in texts_of(lines, most, 600) if run(script, each) == printed]
        if text is None:
            self.assertEqual(found, [])
            return None
        self.assertIs(type(text), list)
        self.assertEqual(run(script, text), printed)
        self.assertTrue(not found or len(text) <= len(found[0]))
        return text

    def test_made_scripts(self):
        told = []
        for seed, script in made(range(1800, 1880)):
            lines = few_lines(2, script)
            chance = random.Random(seed)
            wanted = [[]] + [run(script, [chance.choice(lines) for _ in range(many)])[:3] for many in (1, 2, 3, 4)]
            wanted += [[chance.choice(["a", "b", "ab", "", "x"]) for _ in range(many)] for many in (1, 2, 3)]
            for printed in wanted:
                try:
                    told.append(self.check(script, printed, list(dict.fromkeys([*lines, *printed]))))
                except TooMany as error:
                    self.assertEqual(error.limit, 32)
        self.assertGreater(told.count(None), 50)
        self.assertGreater(len([text for text in told if text]), 100)

    def test_known_ones(self):
        x = ["x"]
        for script, printed, expected in (
                (Script(), [], []), (Script(Tell("a")), [], []), (Script(), ["a", "b", "a"], ["a", "b", "a"]), (Script(is_quiet=True), x, None),
                (Script(Tell("x"), is_quiet=True), ["x", "x"], 2), (Script(Tell("x")), x, None), (Script(Tell("x")), ["x", "y"], ["y"]),
                (Script(Later("x")), ["y", "x"], ["y"]), (Script(Later("x"), Leave(at=Last()), Drop()), x, 2), (Script(Later("x"), Leave()), x, None),
                (Script(Change(First("a", "b"))), ["ba"], 1), (Script(Change(Every("a", "b"))), ["a"], None), (Script(Change(Front("a"))), ["ab"], ["b"]),
                (Script(Change(Front("a"))), ["b"], None), (Script(Change(Swap("abc", "bca"))), ["abc"], ["cab"]),
                (Script(Change(Every("a", "")), Drop(at=Not(If(Is(""))))), [""], 1), (Script(Keep(), Put(), Drop(), store=2), ["a", "a", "b"], ["a", "b"]),
                (TAIL, ["x", "y"], ["x", "y"]), (TAIL, ["x", "y", "z"], None), (HEAD, x, ["x"]), (Script(Drop(at=Not(Number(3)))), x, 3),
                (Script(Stop(at=Number(2))), ["a", "b"], ["a", "b"]), (Script(Stop(at=Number(2))), ["a", "b", "c"], None),
                (Script(Stop(at=If(Is("b"))), Drop()), ["b"], ["b"]), (Script(Read(), window=2), ["a", "b", "c"], ["a", "b", "c"]),
                (Script(Read()), ["b", "c"], 3), (Script(Keep(at=If(Is("ab"))), PutFirst(at=Last()), Drop(), store=1), ["ab"], ["ab"]),
                (Script(Keep(at=If(Begins("a"))), Put(at=Kept(Has("b"))), Drop(), store=1), ["ab"], ["ab"]),
                (Script(Leave(at=Number(2))), ["a"], 1), (Script(Leave(at=Number(1)), Print()), ["a"], None), (Script(Drop(at=Last())), ["a"], 2),
                # Long lines, also longer than those of an Is, and lines that the script does not name.
                (Script(), ["q" * 50, "~", " "], ["q" * 50, "~", " "]), (Script(Change(Behind("a"))), ["b" * 40 + "a"], ["b" * 40]),
                (Script(Change(Every("ab", "b"))), ["b" * 25], 1)):
            text = self.check(script, printed, ["", "a", "b", "ab", *printed])
            self.assertEqual(len(text) if isinstance(expected, int) else text, expected)

    def test_shortest_of_all_texts(self):
        script = Script(Change(First("a", "b"), at=Each(2, 2)), Keep(at=If(Has("b"))), Put(at=Each(3, 3)), Drop(at=If(Is("a"))), store=2, is_quiet=True)
        for printed in ([], ["b"], ["ab"], ["b", "b"], ["ab", "b"], ["b", "bb"], ["b", "b", "b"], ["a"]):
            self.check(script, printed, lines_of("ab", 2), 4)

    def test_no_texts(self):
        for value in [*any_values(), ["a", "b", "c", "d"], ("a",) * 4, "ab", ["%"], [["a"]], ["a", None], {"a": 1}]:
            if value not in ([], (), ["a"], ("a",), ("a", "b")):
                with self.assertRaises(InvalidText) as caught:
                    source(Script(), value)
                self.assertIs(caught.exception.value, value)

    def test_too_many_by_the_lines(self):
        script = Script(Change(Swap("abc", "bca")), Change(Behind("b")), *[Print(at=If(test)) for test in (Has("a"), Begins("b"), Ends("c"))])
        own = len(classes(cases_of(script)))
        self.assertLessEqual(own, 32)
        told = {}
        for printed in ([], ["a"], ["a", "b"], ["a", "bb", "cb"], ["ca", "bb", "cb"], ["abc", "bbc", "bba"], ["x"], ["ab", "bc"], ["bcb", "cbc", "bbb"]):
            cases = cases_of(script)
            changes = [command.change for command in script.commands if isinstance(command, Change)]
            choices = [[], changes[:1], changes[1:], changes]
            more = [(choice, Is(line)) for choice in choices for line in printed]
            try:
                classes(cases + more)
                source(script, printed)
                told[tuple(printed)] = True
            except TooMany:
                with self.assertRaises(TooMany) as caught:
                    source(script, printed)
                self.assertEqual(caught.exception.limit, 32)
                told[tuple(printed)] = False
        self.assertEqual({True, False}, set(told.values()))

    def test_what_is_returned_is_new(self):
        printed = ["x"]
        text = source(Script(), printed)
        text.append("y")
        self.assertEqual([source(Script(), printed), printed], [["x"], ["x"]])


if __name__ == "__main__":
    unittest.main()
