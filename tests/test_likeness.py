"""[60] to [62], [65], [66]: scripts that print the same for every text."""

import random
import unittest

from linestream.changes import Behind, Every, First, Front, Swap
from linestream.classes import cases_of, classes
from linestream.conditions import Begins, Both, Either, Ends, Fails, Has, Is, Only
from linestream.errors import InvalidText, OutOfRange, TooMany
from linestream.happen import bare
from linestream.likeness import agree, alike, needless, swappable, swapped, varied, without
from linestream.linesets import parted_on, result_on
from linestream.running import origins, run
from linestream.scripts import (
    Any, Change, Changed, Count, Drop, Each, Forget, ForgetFirst, If, Keep, Kept, Last, Later, Leave, Not, Number, Print,
    PrintFirst, Put, PutFirst, Range, Read, Script, Skip, Slide, Stop, Tell)
from tests.bounded import Within, few_lines, made, texts_of
from tests.samples import any_values

NO = Not(Any())
TAIL = Script(Keep(), Put(at=Last()), store=2, is_quiet=True)
SLOW = Script(Read(at=Number(1)), PrintFirst(at=Not(Last())), Slide(at=Not(Last())), window=2)


def tell_at(at):
    return Script(Tell("x", at=at))


ALIKE = [
    (Script(Print(), is_quiet=True), Script()), (SLOW, Script()), (Script(Keep(), Put(), store=1), Script(Print())),
    (Script(Tell("a", at=If(Is("a"))), Drop(at=If(Is("a")))), Script()),
    (Script(Change(Every("a", ""), at=If(Only("a")))), Script(Tell("", at=If(Only("a"))), Drop(at=If(Only("a"))))),
    # Addresses told otherwise.
    (tell_at(Any()), tell_at(Each(1, 1))), (tell_at(Last()), tell_at(Not(Not(Last())))), (tell_at(NO), Script()),
    (tell_at(Not(Number(1))), tell_at(Each(1, 2))), (tell_at(Range(Any(), Number(2))), tell_at(Any())),
    (tell_at(If(Has("a"))), tell_at(Not(If(Fails(Has("a")))))), (tell_at(Range(Number(2), Count(1))), tell_at(Number(2))),
    (tell_at(Range(Number(2), Last())), tell_at(Not(Number(1)))), (tell_at(Kept()), Script(store=2)), (tell_at(Changed()), Script()),
    (tell_at(Each(2, 3)), tell_at(Range(Each(2, 3), Number(1)))), (tell_at(Range(Each(3, 1), Count(3))), tell_at(Any())),
    (tell_at(If(Both(Begins("a"), Ends("a")))), Script(Skip(1, at=Not(If(Begins("a")))), Tell("x", at=If(Ends("a"))))),
    (tell_at(If(Only("a"))), tell_at(If(Either(Is(""), Both(Only("a"), Begins("a")))))),
    # Commands that do nothing.
    (Script(Change(First("a", "a"))), Script()), (Script(Change(Swap("a", "a")), Forget(), ForgetFirst(), PutFirst()), Script()),
    (Script(Keep(), Put(), Print()), Script(Print())), (Script(Change(Front("a")), Change(First("a", ""))), Script()),
    (Script(Skip(1), Print()), Script()), (Script(Later("a"), Leave()), Script(Drop())), (Script(Slide()), Script(Drop())),
    # More room than is used.
    (Script(Keep(), Put(at=Last()), Forget(), store=2), Script(Keep(), Put(at=Last()), Forget(), store=1)),
    (Script(window=3), Script()), (Script(Read(), window=2), Script(Read(), window=3)),
    (Script(Keep(at=Number(2)), Put(at=Last()), store=2), Script(Keep(at=Number(2)), Put(at=Last()), store=1, window=2)),
    # Changes that make the same of every line of a class.
    (Script(Change(First("a", "b"), at=If(Is("ab")))), Script(Change(Every("a", "b"), at=If(Is("ab"))))),
    (Script(Change(First("a", "b"), at=If(Fails(Has("a"))))), Script()),
    (Script(Change(Swap("ab", "ba"), at=If(Only("a")))), Script(Change(Every("a", "b"), at=If(Only("a"))))),
    (Script(Change(First("ab", "b"), at=If(Begins("ab")))), Script(Change(First("a", ""), at=If(Begins("ab"))))),
    (Script(Change(Every("a", "")), Tell("", at=If(Is(""))), Drop(at=If(Is("")))), Script(Change(Every("a", "")))),
    # Lines that are equal by their classes alone.
    (Script(Keep(at=If(Is("a"))), PutFirst(at=Last()), store=1), Script(Keep(at=If(Is("a"))), PutFirst(at=Last()), store=2)),
    (Script(Keep(at=If(Is("a"))), Put(at=Last()), store=1), Script(Skip(1, at=Kept()), Keep(at=If(Is("a"))), Put(at=Last()), store=1)),
    (Script(Tell("ab", at=If(Is("b"))), Drop(at=If(Is("b")))), Script(Change(Front("a"), at=If(Is("b"))))),
    # Lines that one has printed ahead of the other one.
    (Script(Read(), window=2), Script()), (Script(Change(Swap("ab", "ba"))), Script(Change(Swap("abc", "bac")))),
    (Script(Keep(), Drop(at=Not(Last())), Put(), store=1), Script(Drop(at=Not(Last())), Print())),
    (Script(Read(), Read(), window=3), SLOW), (Script(Keep(), Put(at=Last()), store=1), Script(Print(at=Last()))),
    (Script(Keep(at=Number(1)), PutFirst(at=Number(2)), Tell("x", at=Number(2)), store=1),
     Script(Keep(at=Number(1)), Put(at=Number(2)), Tell("x", at=Number(2)), store=2)),
    (Script(Later("x")), Script(Print(), Tell("x"), is_quiet=True)), (Script(Stop(at=Last())), Script()),
]

# Pairs, and with how many lines they part.
UNLIKE = [
    (Script(), Script(Drop()), 1), (Script(), Script(is_quiet=True), 1), (Script(), Script(Drop(at=Number(3))), 3),
    (Script(), Script(Tell("a", at=Last())), 1), (Script(), Script(Tell("a", at=Not(Last()))), 2),
    (Script(), Script(Change(First("a", "b"))), 1), (Script(Change(First("a", "b"))), Script(Change(Every("a", "b"))), 1),
    (Script(), Script(Stop(at=Number(1))), 2), (Script(), Script(Leave(at=Number(2))), 2), (TAIL, Script(), 3),
    (TAIL, Script(Keep(), Put(at=Last()), store=1, is_quiet=True), 2), (Script(Keep(), Put(), store=1), Script(Keep(), Put(), store=2), 2),
    (Script(Read(), window=2), Script(Read(), window=1), 2), (SLOW, Script(Read(), PrintFirst(), Drop(), window=2), 2),
    (Script(Tell("a", at=If(Is("a"))), Drop(at=If(Is("b")))), Script(Print(at=If(Is("a")))), 1),
    (Script(Change(Every("a", ""), at=If(Only("ab")))), Script(Tell("", at=If(Only("ab"))), Drop(at=If(Only("ab")))), 1),
    (Script(Keep(at=If(Is("a"))), PutFirst(at=Last()), store=2), Script(Keep(at=If(Has("a"))), PutFirst(at=Last()), store=2), 1),
    (Script(Keep(), PutFirst(at=Each(3, 3)), store=1), Script(Keep(at=Not(Number(3))), PutFirst(at=Each(3, 3)), store=1), 3),
    (Script(Later("a")), Script(Tell("a")), 1),
    (Script(Tell("a"), Print(), is_quiet=True), Script(Print(), Tell("a"), is_quiet=True), 1),
    (Script(Change(Front("a"))), Script(Change(Behind("a"))), 1),
    (Script(Tell("x", at=Range(Number(1), Number(3)))), Script(Tell("x", at=Not(Each(1, 3)))), 3),
    (Script(Tell("x", at=Range(If(Is("a")), If(Is("a"))))), Script(Tell("x", at=If(Is("a")))), 2),
    # A line that is fixed, beside one that is not, and beside one that is held.
    (Script(Change(Every("a", ""), at=If(Only("a")))), Script(Change(Front("b"), at=If(Only("a")))), 1),
    (Script(Change(Front("b"), at=If(Only("a")))), Script(Change(Every("a", ""), at=If(Only("a")))), 1),
    (Script(Keep(at=Number(1)), Drop(at=Not(Number(2))), Drop(at=Not(If(Only("a")))), Put(), store=1, is_quiet=True),
     Script(Drop(at=Not(Number(2))), Drop(at=Not(If(Only("a")))), Change(Every("a", "")), Print(), is_quiet=True), 2),
    # One way needs a line behind it, another one of as many lines does not.
    (Script(Skip(1, at=Kept()), Drop(at=Last()), Skip(1, at=Last()), Drop(at=Kept()), Tell("x", at=Number(2)), Keep(at=If(Has("a"))),
            store=1, is_quiet=True), Script(is_quiet=True), 2),
]


class Told:
    """[60] told once more."""

    def __init__(self, one, other):
        self.scripts = (one, other)
        self.kinds = classes(cases_of(one) + cases_of(other))

    def kind(self, line):
        return [line in lines for lines in self.kinds].index(True)

    def changes(self, side, indexes):
        return [self.scripts[side].commands[index].change for index in indexes]

    def fixed(self, side, text, origin):
        number, indexes = origin
        if number == 0:
            return self.scripts[side].commands[indexes[0]].line
        return result_on(self.changes(side, indexes), self.kinds[self.kind(text[number - 1])])

    def are_same(self, text, side, origin, other_side, other):
        one, two = self.fixed(side, text, origin), self.fixed(other_side, text, other)
        if one is not None and one == two:
            return True
        return origin[0] == other[0] > 0 and parted_on(
            self.changes(side, origin[1]), self.changes(other_side, other[1]), self.kinds[self.kind(text[origin[0] - 1])]) is None

    def agree(self, text):
        one, other = [origins(script, text) for script in self.scripts]
        return len(one) == len(other) and all(self.are_same(text, 0, pair[0], 1, pair[1]) for pair in zip(one, other))


def variation(seed, script):
    """Another script that may be alike to a script."""
    chance = random.Random(seed)
    many = len(script)
    kind = chance.randrange(6)
    if kind == 0:
        return bare(script)
    if kind == 1 and many:
        return without(script, chance.randrange(many))
    if kind == 2 and swappable(script):
        return swapped(script, chance.choice(swappable(script)))
    if kind == 3 and many < 8:
        return Script(Tell("b", at=NO), *script.commands, window=script.window, store=script.store, is_quiet=script.is_quiet)
    if kind == 4:
        return Script(*script.commands, window=script.window, store=script.store, is_quiet=not script.is_quiet)
    return Script(*script.commands, window=script.window, store=3 - script.window, is_quiet=script.is_quiet)


def made_pairs(seeds):
    found = [(script, variation(seed, script)) for seed, script in made(seeds)]
    return found + [(script, Within(seed + 10 ** 6, tests=1, changes=1, most=3).script()) for seed, script in made(seeds, tests=2, changes=1)]


class AlikeTest(unittest.TestCase):
    def test_examples_of_section_7(self):
        quiet = Script(Print(), is_quiet=True)
        told = Script(Tell("a", at=If(Is("a"))), Drop(at=If(Is("a"))))
        bared = Script(Change(Every("a", ""), at=If(Only("a"))))
        empty = Script(Tell("", at=If(Only("a"))), Drop(at=If(Only("a"))))
        self.assertEqual([alike(quiet, Script()), alike(told, Script()), alike(bared, empty)], [None, None, None])
        self.assertEqual(
            [len(alike(Script(), Script(Drop(at=Number(3))))), alike(Script(Keep(), Put(), store=1), Script(Print()))], [3, None])

    def check(self, one, other, lines=2):
        text = alike(one, other)
        again = alike(other=one, one=other)
        self.assertEqual(None if text is None else len(text), None if again is None else len(again))
        unlike = [each for each in texts_of(few_lines(lines, one, other), 5, 600) if run(one, each) != run(other, each)]
        if text is None:
            self.assertEqual(unlike, [])
        else:
            self.assertIs(type(text), list)
            self.assertNotEqual(run(one, text), run(other, text))
            self.assertNotEqual(run(one, again), run(other, again))
            self.assertTrue(not unlike or len(text) <= len(unlike[0]))
        return text

    def test_alike_in_many_ways(self):
        for one, other in ALIKE:
            self.assertIsNone(self.check(one, other))
            self.assertIsNone(alike(one, one))

    def test_unlike_in_many_ways(self):
        for one, other, many in UNLIKE:
            text = self.check(one, other)
            self.assertEqual(len(text), many)

    def test_pairs_that_are_made(self):
        told = [self.check(one, other) for one, other in made_pairs(range(150))]
        self.assertGreater(told.count(None), 60)
        self.assertGreater(len([text for text in told if text is not None and len(text) > 1]), 10)

    def test_shortest_of_lines_one_by_one(self):
        # Sessions that are fed all lines of a few letters, so that lines by chance alike are among them.
        for one, other, _ in UNLIKE[:12]:
            text = alike(one, other)
            for each in texts_of(["", "a", "b", "ab", "aa"], len(text) - 1):
                self.assertEqual(run(one, each), run(other, each))

    def test_what_is_returned_is_new(self):
        one, other = Script(), Script(Tell("a", at=Number(2)))
        text = alike(one, other)
        text.append("x")
        self.assertEqual(len(alike(one, other)), 2)


class AgreeTest(unittest.TestCase):
    def pairs(self):
        return ALIKE + [pair[:2] for pair in UNLIKE] + made_pairs(range(600, 640))

    def test_beside_origins(self):
        for number, (one, other) in enumerate(self.pairs()):
            told = Told(one, other)
            lines = few_lines(2, one, other)
            chance = random.Random(number)
            for many in (0, 1, 1, 2, 3, 4):
                text = [chance.choice(lines) for _ in range(many)]
                is_agreed = agree(one, other, text)
                self.assertIs(type(is_agreed), bool)
                self.assertEqual(is_agreed, told.agree(text))
                self.assertEqual(agree(other=one, one=other, text=tuple(text)), is_agreed)
                found = varied(one, other, text)
                self.assertEqual(found is None, is_agreed)
                if found is not None:
                    self.assertEqual([told.kind(line) for line in found], [told.kind(line) for line in text])
                    self.assertNotEqual(run(one, found), run(other, found))
                    self.assertIs(type(found), list)
                else:
                    self.assertEqual(run(one, text), run(other, text))

    def test_each_way_to_vary(self):
        quiet = {"is_quiet": True}
        for one, other, text in (
                (Script(), Script(Change(First("a", "b"))), ["b"]), (Script(Tell("a"), **quiet), Script(), ["a"]),
                (Script(), Script(Tell("a"), **quiet), ["a"]), (Script(Tell("a"), **quiet), Script(Tell("b"), **quiet), ["c"]),
                (Script(Keep(at=Number(1)), Put(at=Number(2)), store=1, **quiet), Script(Print(at=Number(2)), **quiet), ["a", "a"]),
                (Script(Change(Front("a"))), Script(Change(Behind("a"))), ["a"]), (Script(), Script(Tell("x")), ["x"]),
                (Script(Change(Every("a", "b")), Print(at=If(Fails(Has("a")))), **quiet), Script(Tell("b"), **quiet), ["a"]),
                (Script(Print(at=If(Is("a"))), Print(), **quiet), Script(Print(), Tell("a", at=If(Is("a"))), Print(at=Not(Any())), **quiet), ["b"])):
            found = varied(one=one, other=other, text=text)
            if found is None:
                self.assertTrue(agree(one, other, text))
            else:
                self.assertNotEqual(run(one, found), run(other, found))
                self.assertEqual(len(found), len(text))

    def test_text_stays(self):
        text = ["b"]
        found = varied(Script(), Script(Tell("b"), is_quiet=True), text)
        self.assertEqual(text, ["b"])
        found = varied(Script(), Script(is_quiet=True), text)
        self.assertEqual(found, ["b"])
        self.assertIsNot(found, text)
        self.assertEqual(varied(Script(), Script(is_quiet=True), ("b",)), ["b"])

    def test_no_texts(self):
        for value in [*any_values(), "ab", ["a", 1], [["a"]], {"a": 1}, ("a", "%")]:
            if not (isinstance(value, (list, tuple)) and all(isinstance(line, str) and line in ("a", "b") for line in value)):
                for ask in (agree, varied):
                    with self.assertRaises(InvalidText) as caught:
                        ask(Script(), Script(), value)
                    self.assertIs(caught.exception.value, value)


class WithoutTest(unittest.TestCase):
    def test_skips(self):
        a, b, c = Tell("a"), Tell("b"), Tell("c")
        last = Last()
        for script, index, expected in (
                (Script(a), 0, Script()), (Script(a, b, c, window=2, store=1, is_quiet=True), 1, Script(a, c, window=2, store=1, is_quiet=True)),
                (Script(Skip(2, at=last), a, b, c), 1, Script(Skip(1, at=last), b, c)), (Script(Skip(2, at=last), a, b, c), 3, Script(Skip(2, at=last), a, b)),
                (Script(Skip(1), a, b), 1, Script(b)), (Script(Skip(1), Skip(1), a), 2, Script()), (Script(Skip(2), Skip(1), a, b), 2, Script(b)),
                (Script(Skip(2), Skip(1), a, b), 1, Script(Skip(1), a, b)), (Script(Skip(2), Skip(1), a, b), 0, Script(Skip(1), a, b)),
                (Script(Skip(3), a, Skip(1), b, c), 3, Script(Skip(1), a, c)), (Script(Skip(1), Skip(1), Skip(1), a, b), 3, Script(b)),
                (Script(a, Skip(1), b), 0, Script(Skip(1), b))):
            self.assertEqual(without(script, index), expected)
            self.assertEqual(without(index=index, script=script), expected)

    def test_no_bounds(self):
        script = Script(*[Skip(1, at=Number(99))] * 11, Print())
        self.assertEqual(without(script, 11), Script())
        self.assertEqual(without(script, 0), Script(*script.commands[1:]))
        many = Script(*[Change(Front("abcdefgh"))] * 12, window=3, store=3)
        self.assertEqual([len(without(many, 5)), swapped(many, 3) == many], [11, True])

    def test_swapped(self):
        a, b, c = Tell("a"), Tell("b"), Tell("c")
        self.assertEqual(swapped(Script(a, b, c, store=1), 1), Script(a, c, b, store=1))
        self.assertEqual(swapped(script=Script(a, b, window=2, is_quiet=True), index=0), Script(b, a, window=2, is_quiet=True))
        skipping = Script(a, Skip(2), b, c, a, b)
        for index in range(6):
            if index in (2, 4):
                commands = list(skipping.commands)
                commands[index:index + 2] = commands[index + 1], commands[index]
                self.assertEqual(swapped(skipping, index), Script(*commands))
            else:
                self.refuse(swapped, skipping, index)

    def refuse(self, ask, script, value):
        with self.assertRaises(OutOfRange) as caught:
            ask(script, value)
        self.assertIs(caught.exception.value, value)

    def test_indexes(self):
        script = Script(Print(), Keep())
        for value in [*any_values(), 2, -1, 10 ** 30, True]:
            if isinstance(value, bool) or value not in (0, 1):
                self.refuse(without, script, value)
                self.refuse(swapped, script, value)
        self.refuse(swapped, script, 1)
        self.refuse(swapped, Script(), 0)
        self.refuse(swapped, Script(Print()), 0)
        self.refuse(without, Script(), 0)


class NeedlessTest(unittest.TestCase):
    def test_examples_of_section_7(self):
        self.assertEqual(needless(Script(Forget(), Print(), Keep())), (0, 2))
        self.assertEqual(swappable(Script(Tell("a"), Tell("a"), Print(), Forget())), (0, 2))

    def test_beside_alike(self):
        more = [script for pair in ALIKE for script in pair]
        for script in [script for _, script in made(range(700, 790))] + more:
            self.assertEqual(needless(script), tuple(
                [index for index in range(len(script)) if alike(without(script, index), script) is None]))
            told = []
            for index in range(len(script)):
                try:
                    other = swapped(script, index)
                except OutOfRange:
                    continue
                if alike(script, other) is None:
                    told.append(index)
            self.assertEqual(swappable(script=script), tuple(told))
        self.assertEqual([needless(script=Script()), swappable(Script())], [(), ()])

    def test_cases_that_only_the_swapped_script_has(self):
        tell, print_it = Tell("x", at=If(Has("a"))), Print(at=If(Has("a")))
        for script, expected in (
                (Script(tell, Change(Swap("b", "c"))), (0,)), (Script(tell, Change(Swap("a", "c"))), ()), (Script(print_it, Change(Swap("b", "c"))), ()),
                (Script(tell, Change(First("b", "b"))), (0,)), (Script(print_it, Change(First("b", "b"))), (0,)),
                (Script(Change(Swap("b", "c")), tell), (0,)), (Script(Tell("x", at=Changed()), Change(Front("a"))), ()),
                (Script(Keep(), Change(Swap("b", "c")), Tell("x", at=Kept(Has("a"))), store=1), (0, 1))):
            self.assertEqual(swappable(script), expected)

    def test_too_many_by_a_swapped_script(self):
        one, other = Change(Swap("abc", "bca")), Change(First("ab", "c"))
        tests = [Print(at=If(Is("ab"))), Print(at=If(Is("bc"))), Print(at=If(Is("ca")))]
        refused = 0
        for commands in ([tests[0], one, tests[1], other, tests[2]], [Print(at=If(Has("ab"))), one, Print(at=If(Has("bc"))), other, Print(at=If(Ends("c")))],
                         [Print(at=If(Has("a"))), Change(First("a", "b")), Print(at=If(Ends("b"))), Change(First("b", "c")), Print(at=If(Begins("c")))],
                         [Change(First("ab", "ba")), Print(at=If(Has("ab"))), Change(First("ba", "b")), Print(at=If(Ends("a"))), Print(at=If(Begins("ba")))]):
            script = Script(*commands)
            try:
                needless(script)
            except TooMany:
                continue
            counts = []
            for index in range(len(script) - 1):
                try:
                    counts.append(len(classes(cases_of(script) + cases_of(swapped(script, index)))))
                except TooMany as error:
                    self.assertEqual(error.limit, 32)
                    counts.append(33)
            if max(counts) > 32:
                refused += 1
                with self.assertRaises(TooMany) as caught:
                    swappable(script)
                self.assertEqual(caught.exception.limit, 32)
            else:
                swappable(script)
        self.assertGreater(refused, 0)


if __name__ == "__main__":
    unittest.main()
