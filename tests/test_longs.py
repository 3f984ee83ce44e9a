"""[42], [43], [44]: long texts and runs on them."""

import copy
import unittest

from linestream.changes import Behind, Every, Front, Swap
from linestream.conditions import Has, Is
from linestream.errors import Beyond, InvalidBlock, InvalidLine, InvalidText, OutOfRange, TooMany
from linestream.longs import LongText, counts_long, origin_long, run_long, settled
from linestream.scripts import (
    Any, Change, Changed, Count, Drop, Each, Forget, ForgetFirst, If, Keep, Kept, Last, Later, Leave, Not, Number, Print,
    PrintFirst, Put, PutFirst, Range, Read, Script, Skip, Slide, Stop, Tell)
from linestream.sessions import Session
from tests.made import Chance
from tests.plainly import Plain
from tests.samples import any_values, lines_of, no_lines, some_addresses, some_changes, some_commands, some_tests

BIG = 10 ** 30


def all_values():
    return [*any_values(), *some_tests(), *some_changes(), *some_addresses(), *some_commands(), LongText()]


def written(blocks):
    """The text of blocks."""
    return [line for lines, times in blocks for _ in range(times) for line in lines]


def settled_plainly(script, text, number, line):
    """[44], step by step."""
    one, other = Session(script), Session(script)
    for at, own in enumerate(text, start=1):
        one.feed(own)
        other.feed(line if at == number else own)
        if at >= number and one == other:
            return at
    return None


class ExamplesTest(unittest.TestCase):
    def test_examples_of_section_5(self):
        odd, long = Script(Print(at=Each(2, 1)), is_quiet=True), LongText((["a", "b"], 10 ** 30), (["c"], 1))
        self.assertEqual(
            [run_long(odd, long) == LongText((["a"], 10 ** 30), (["c"], 1)), counts_long(odd, long),
             origin_long(odd, long, 10 ** 30)],
            [True, (1000000000000000000000000000001,), (2000000000000000000000000000001, ())])
        self.assertEqual(
            [settled(Script(), long, 2, "c"), settled(Script(Keep(), Put(at=Last()), store=1), long, 2, "c")],
            [3, 4])


class BlocksTest(unittest.TestCase):
    def assert_no_block(self, index, *blocks):
        with self.assertRaises(InvalidBlock) as caught:
            LongText(*blocks)
        self.assertEqual(caught.exception.index, index)

    def test_right_blocks(self):
        for blocks, length in (((), 0), (((["a"], 1),), 1), (((["a", ""], 3),), 6), (((["a"] * 4, BIG),), 4 * BIG),
                               (((("a", "b"), 2), (["c"], 1)), 5), (((["a"], 1),) * 10, 10)):
            long = LongText(*blocks)
            self.assertEqual([long.length, type(long.length), type(long.blocks)], [length, int, tuple])
            for block in long.blocks:
                self.assertEqual([type(block), type(block[0]), type(block[1])], [tuple, tuple, int])
                self.assertTrue(block[0] and block[1] >= 1)
            self.assertEqual(sum(len(lines) * times for lines, times in long.blocks), length)

    def test_numbers_of_lines(self):
        for many in (0, 5, 6, 100):
            self.assert_no_block(0, (["a"] * many, 1))
            self.assert_no_block(1, (["a"], 1), (("a",) * many, 1))
        for many in (1, 4):
            self.assertEqual(LongText((["a"] * many, 2)).length, 2 * many)

    def test_times(self):
        for times in (0, -1, BIG + 1, 10 ** 59, True, False, None, "1", 1.0, (1,), [1]):
            self.assert_no_block(0, (["a"], times))
        for times in (1, 2, BIG):
            self.assertEqual(LongText((["a"], times)).length, times)

    def test_values_of_any_kind(self):
        for value in [*all_values(), "ab", ("a", 1), (["a"], 1, 1), (["a"],), [["a"], 1], [("a",), 1], {0: ["a"], 1: 1}]:
            self.assert_no_block(0, value)
            self.assert_no_block(0, value, value)
            self.assert_no_block(2, (["a"], 1), (("b",), 2), value, None)
            if not (isinstance(value, (tuple, list)) and value and all(each in ("a", "b") for each in value)):
                self.assert_no_block(0, (value, 1))
            if type(value) is not int or not 1 <= value <= BIG:
                self.assert_no_block(0, (["a"], value))
        for line in no_lines() + [None, 1, ["a"]]:
            self.assert_no_block(0, (["a", line], 1))

    def test_too_many(self):
        with self.assertRaises(TooMany) as caught:
            LongText(*[(["a"], 1)] * 11)
        self.assertEqual(caught.exception.limit, 10)
        self.assertEqual(LongText(*[(["a"], 1)] * 10).length, 10)
        self.assert_no_block(10, *[(["a"], 1)] * 10, None)
        self.assert_no_block(3, *[(["a"], 1)] * 3, (["a"], 0), *[(["a"], 1)] * 20)
        self.assertRaises(TooMany, LongText, *[(["a"], 1)] * 12)

    def test_lists_that_are_changed_later(self):
        lines = ["a", "b"]
        long = LongText((lines, 2))
        text = ["c", "d"]
        other = LongText.of(text)
        lines.append("x")
        text[0] = "y"
        self.assertEqual([long.part(1, 4), other.part(1, 2)], [["a", "b", "a", "b"], ["c", "d"]])
        found = long.part(1, 4)
        found.append("z")
        self.assertEqual(long.part(1, 4), ["a", "b", "a", "b"])

    def test_of(self):
        for text in ([], [""], ["a"], ["a", "b", "a"], ["a"] * 5, list("abcdefghij") * 200):
            for long in (LongText.of(text), LongText.of(tuple(text)), LongText.of(text=text)):
                self.assertEqual(long.length, len(text))
                self.assertEqual(written(long.blocks), text)
        for value in [*all_values(), "ab", "", ["a", None], ("a", 1)]:
            if not (isinstance(value, (tuple, list)) and all(each in ("a", "b") for each in value)):
                with self.assertRaises(InvalidText) as caught:
                    LongText.of(value)
                self.assertIs(caught.exception.value, value)


class EqualityTest(unittest.TestCase):
    def test_however_they_are_cut(self):
        same = [LongText((["a", "b"], 6)), LongText((["a", "b", "a", "b"], 3)), LongText((["a"], 1), (["b", "a"], 5), (["b"], 1)),
                LongText((["a", "b"], 1), (["a", "b"], 5)), LongText.of(["a", "b"] * 6),
                LongText((["a", "b"], 2)) + LongText.of(["a", "b"] * 4)]
        for one in same:
            for other in same:
                self.assertIs(one == other, True)
                self.assertIs(one != other, False)
                self.assertIsNone(one.difference(other))
        for other in (LongText(), LongText((["a", "b"], 7)), LongText((["a", "b"], 5)), LongText((["a", "b", "b"], 4)),
                      LongText((["b", "a"], 6)), LongText((["a", "b"], 5), (["a"], 1))):
            for one in same:
                self.assertIs(one == other, False)
                self.assertIs(other != one, True)
        self.assertIs(LongText() == LongText.of([]), True)

    def test_far_away(self):
        one = LongText((["a", "b", "a"], BIG), (["c"], 1))
        self.assertTrue(one == LongText((["a", "b", "a"], BIG - 7), (["a", "b", "a"], 7), (["c"], 1)))
        self.assertTrue(LongText((["a", "b"] * 2, BIG)) == LongText((["a", "b"], BIG), (["a", "b"], BIG)))
        self.assertTrue(LongText((["a"] * 3, BIG), (["a"], 2)) == LongText((["a"] * 4, 3 * BIG // 4), (["a"], 2)))
        self.assertEqual(LongText((["a"], BIG)).difference(LongText((["a"], BIG), (["a"], 1))), BIG + 1)
        self.assertEqual(LongText((["a"], BIG)).difference(LongText((["a"], BIG - 1))), BIG)
        self.assertEqual(one.difference(LongText((["a", "b", "a"], BIG), (["d"], 1))), 3 * BIG + 1)
        self.assertEqual(one.difference(LongText((["a", "b", "a"], BIG))), 3 * BIG + 1)
        self.assertEqual(one.difference(LongText((["a", "b", "a"], BIG - 1), (["a", "b", "b", "c"], 1))), 3 * BIG)
        self.assertEqual(LongText((["a", "b"], BIG)).difference(LongText((["a", "b"], 5), (["a", "b", "a"], BIG))), 14)
        self.assertEqual(LongText((["a"], BIG), (["b"], BIG)).difference(other=LongText((["a"], BIG + 0), (["a"], 1))), BIG + 1)

    def test_difference(self):
        texts = [["a"], ["b"], ["a", "b"], ["a", "a"], ["a", "b", "a"], ["a", "b", "b"], [], ["a"] * 7, ["a"] * 6 + ["b"]]
        for one in texts:
            for other in texts:
                expected = None
                for at in range(max(len(one), len(other))):
                    if expected is None and one[at:at + 1] != other[at:at + 1]:
                        expected = at + 1
                self.assertEqual(LongText.of(one).difference(LongText.of(other)), expected)
                self.assertIs(LongText.of(one) == LongText.of(other), expected is None)

    def test_made_by_chance(self):
        for seed in range(300):
            chance = Chance(seed)
            one, other = chance.blocks(4, 9), chance.blocks(4, 9)
            if seed % 3:
                other = [*one[:-1], *[(lines[:1], times) for lines, times in one[-1:]], *other[:1]]
            texts = written(one), written(other)
            found = LongText(*one).difference(LongText(*other))
            self.assertEqual(found, LongText.of(texts[0]).difference(LongText.of(texts[1])))
            if found is None:
                self.assertEqual(texts[0], texts[1])
            else:
                self.assertEqual(texts[0][:found - 1], texts[1][:found - 1])
                self.assertNotEqual(texts[0][found - 1:found], texts[1][found - 1:found])

    def test_values_of_another_kind(self):
        for value in [*any_values(), *some_commands(), ["a"], ("a",), LongText((["a"], 1)).blocks, Script(), object()]:
            for long in (LongText(), LongText((["a"], 1))):
                self.assertIs(long == value, False)
                self.assertIs(value == long, False)
                self.assertIs(long != value, True)

    def test_sum(self):
        one, other = LongText((["a", "b"], BIG)), LongText((["c"], 2))
        self.assertEqual([(one + other).length, (one + other).line_at(2 * BIG + 1)], [2 * BIG + 2, "c"])
        self.assertTrue(one + LongText() == one and LongText() + one == one)
        self.assertTrue(one + other != other + one)
        many = LongText()
        for at in range(30):
            many = many + LongText(([str(at % 10)], 1))
        self.assertEqual(many.part(1, 30), [str(at % 10) for at in range(30)])
        self.assertEqual((one + one).length, 4 * BIG)
        self.assertTrue((one + one) + one == one + (one + one))
        self.assertEqual([one.length, other.length], [2 * BIG, 2])


class LinesTest(unittest.TestCase):
    def setUp(self):
        self.blocks = [(["a", "b", "c"], 3), (["d"], 4), (["e", "f", "g", "h"], 2), (["i", "j"], 1)]
        self.long, self.text = LongText(*self.blocks), written(self.blocks)

    def test_line_at(self):
        self.assertEqual([self.long.line_at(number) for number in range(1, 24)], self.text)
        self.assertEqual(self.long.line_at(number=1), "a")
        far = LongText((["a", "b"], BIG), (["c"], BIG))
        self.assertEqual([far.line_at(number) for number in (1, 2, BIG, BIG - 1, 2 * BIG, 2 * BIG + 1, 3 * BIG)], list("abbabcc"))

    def test_part(self):
        for first in range(1, 24):
            for last in range(first, 24):
                self.assertEqual(self.long.part(first, last), self.text[first - 1:last])
        self.assertEqual(self.long.part(last=2, first=1), ["a", "b"])
        self.assertIs(type(self.long.part(1, 1)), list)

    def test_part_of_1000_lines(self):
        far = LongText((["a", "b"], BIG), (["c"], BIG))
        for first in (1, 2, BIG, 2 * BIG - 499, 3 * BIG - 999):
            self.assertEqual(far.part(first, first + 999), [far.line_at(number) for number in range(first, first + 1000)])
            with self.assertRaises(OutOfRange) as caught:
                far.part(first, first + 1000)
            self.assertEqual(caught.exception.value, first + 1000)

    def test_out_of_range(self):
        values = [value for value in [*all_values(), "1", 1.0] if not (type(value) is int and 1 <= value <= 23)]
        for value in [0, -1, 24, 10 ** 30, *values]:
            for call in (self.long.line_at, lambda number: self.long.part(number, 5), lambda number: self.long.part(number, number),
                         lambda number: self.long.part(2, number), lambda number: LongText().line_at(number),
                         lambda number: LongText().part(number, 1)):
                with self.assertRaises(OutOfRange) as caught:
                    call(value)
                self.assertIs(caught.exception.value, value)
        for first, last, wrong in ((0, 0, 0), (5, 4, 4), (23, 24, 24), (24, 24, 24), (3, 2, 2), (-1, None, -1), (1, True, True)):
            with self.assertRaises(OutOfRange) as caught:
                self.long.part(first, last)
            self.assertIs(caught.exception.value, wrong)
        self.assertRaises(OutOfRange, LongText().line_at, 1)


class BoundsTest(unittest.TestCase):
    def all_calls(self, script):
        """Each function with right arguments, and with wrong ones."""
        long = LongText((["a"], 3))
        return [lambda: run_long(script, long), lambda: counts_long(script, long), lambda: origin_long(script, long, 0),
                lambda: origin_long(script, long, None), lambda: settled(script, long, 1, "b"),
                lambda: settled(script, long, None, "b"), lambda: settled(script, long, 1, None),
                lambda: run_long(script, LongText()), lambda: origin_long(script, LongText(), 0)]

    def test_beyond(self):
        three = [Print(at=Range(Any(), Last())), Tell("x", at=Not(Range(Any(), Any()))), Print(at=Range(Last(), Count(9)))]
        for commands, bound in (
                (three, "ranges"), ([*three, Print(at=Each(7, 1))], "ranges"), ([Print(at=Range(Any(), Any()))] * 4, "ranges"),
                ([Print(at=Each(7, 1))], "step"), ([Print(at=Not(Each(10 ** 40, 1)))], "step"),
                ([Print(at=Range(Each(7, 1), Count(9)))], "step"), ([Print(at=Range(Any(), Not(Each(7, 1))))], "step"),
                ([Print(at=Range(Any(), Count(7)))], "count"), ([Print(at=Not(Range(Any(), Count(10 ** 40))))], "count"),
                ([Print(at=Range(Any(), Count(7))), Print(at=Each(7, 1))], "step"),
                ([Print(at=Range(Any(), Count(6))), Print(at=Range(Any(), Count(7)))], "count")):
            for call in self.all_calls(Script(*commands)):
                with self.assertRaises(Beyond) as caught:
                    call()
                self.assertEqual(caught.exception.bound, bound)

    def test_within_the_bounds(self):
        script = Script(Print(at=Range(Each(6, 10 ** 40), Count(6))), Print(at=Range(Any(), Not(Each(6, 1)))), Print(at=Number(BIG)))
        long = LongText((["a"], 9))
        self.assertEqual(counts_long(script, long), tuple(Plain(script, ["a"] * 9).counts))

    def test_indexes(self):
        script, long = Script(Tell("x", at=Number(1))), LongText((["a", "b"], BIG))
        for index in [2 * BIG + 1, -1, 10 ** 59, *all_values(), "0", 0.0]:
            if not (type(index) is int and 0 <= index <= 2 * BIG):
                with self.assertRaises(OutOfRange) as caught:
                    origin_long(script, long, index)
                self.assertIs(caught.exception.value, index)
        self.assertEqual([origin_long(script, long, index) for index in (0, 1, 2, 2 * BIG)],
                         [(0, (0,)), (1, ()), (2, ()), (2 * BIG, ())])
        for empty in (Script(is_quiet=True), Script(Drop())):
            for index in (0, 1, -1):
                self.assertRaises(OutOfRange, origin_long, empty, long, index)
        self.assertRaises(OutOfRange, origin_long, Script(), LongText(), 0)

    def test_numbers_and_lines_of_settled(self):
        script, long = Script(), LongText((["a", "b"], BIG))
        for number in [0, -1, 2 * BIG + 1, *all_values(), "1"]:
            if not (type(number) is int and 1 <= number <= 2 * BIG):
                for line in ("a", None):
                    with self.assertRaises(OutOfRange) as caught:
                        settled(script, long, number, line)
                    self.assertIs(caught.exception.value, number)
        for line in all_values():
            with self.assertRaises(InvalidLine) as caught:
                settled(script, long, 1, line)
            self.assertIs(caught.exception.value, line)
        self.assertRaises(OutOfRange, settled, script, LongText(), 1, "a")


class LongRunTest(unittest.TestCase):
    def check(self, script, blocks, every=True):
        long, text = LongText(*blocks), written(blocks)
        plain = Plain(script, text)
        found = run_long(script, long)
        self.assertEqual(written(found.blocks), plain.run())
        self.assertTrue(found == LongText.of(plain.run()))
        self.assertEqual(counts_long(script, long), tuple(plain.counts))
        places = plain.origins()
        for index in range(0, len(places), 1 if every else 1 + len(places) // 20):
            self.assertEqual(origin_long(script, long, index), places[index])

    def test_kinds(self):
        script, long = Script(Change(Front("x"))), LongText((["a", "b"], 50))
        self.assertEqual([type(run_long(script, long)), type(counts_long(script, long))], [LongText, tuple])
        self.assertEqual({type(each) for each in counts_long(script, long)}, {int})
        for index in (0, 99):
            found = origin_long(script=script, long=long, index=index)
            self.assertEqual([type(found), type(found[0]), type(found[1])], [tuple, int, tuple])
        self.assertTrue(run_long(long=long, script=script) == LongText((["xa", "xb"], 50)))
        self.assertEqual(counts_long(long=long, script=script), (100,))

    def test_the_empty_text(self):
        for script in (Script(), Script(Tell("x")), Script(Keep(), Later("x"), Put(), store=3, window=3)):
            self.assertTrue(run_long(script, LongText()) == LongText())
            self.assertEqual(counts_long(script, LongText()), (0,) * len(script))

    def test_short_texts(self):
        for seed in range(250):
            chance = Chance(seed, far=6, most_ranges=2)
            self.check(chance.script(), chance.blocks(3, 4))

    def test_loops(self):
        for seed in range(250):
            chance = Chance(seed, far=6 if seed % 2 else 150, most_ranges=2)
            self.check(chance.script(10), chance.blocks(3, 90), every=False)

    def test_loops_with_held_lines(self):
        for commands, rooms in (
                ([Keep(at=Number(1)), Put(at=Each(5, 3))], {"store": 3}), ([Keep(at=Each(4, 1)), PutFirst()], {"store": 3}),
                ([Keep(at=Each(6, 1)), ForgetFirst(at=Each(4, 3)), Put(at=Each(5, 2))], {"store": 3, "is_quiet": True}),
                ([Read(at=Number(1)), Read(at=Number(2)), PrintFirst(), Slide()], {"window": 3, "is_quiet": True}),
                ([Keep(at=If(Has("c"))), Put(at=If(Has("a"))), Forget(at=Each(6, 2))], {"store": 2}),
                ([Change(Front("x"), at=Each(3, 1)), Keep(at=Changed()), PutFirst(at=Each(2, 2))], {"store": 3}),
                ([Read(at=Range(Each(5, 2), Count(4))), Keep(at=Kept(Has("b"))), Put()], {"store": 2, "window": 3}),
                ([Later("x", at=Each(4, 2)), Read(at=Each(3, 1)), Later("y"), Print()], {"window": 2}),
                ([Keep(at=Number(2)), Keep(at=Number(37)), Put(at=Each(6, 4))], {"store": 3, "is_quiet": True})):
            for blocks in ([(["a", "b", "c"], 60)], [(["a"], 70), (["b", "c"], 40)], [(["c", "a", "a", "b"], 45), (["a"], 1)]):
                self.check(Script(*commands, **rooms), blocks, every=False)

    def test_far_numbers(self):
        long = LongText((["a", "b"], BIG), (["c", "d", "e"], BIG))
        script = Script(Print(at=Number(BIG)), Print(at=Number(BIG + 1)), Print(at=Number(2 * BIG + 2)), Print(at=Number(6 * BIG)),
                        is_quiet=True)
        self.assertEqual(run_long(script, long).part(1, 3), ["b", "a", "d"])
        self.assertEqual(counts_long(script, long), (1, 1, 1, 0))
        self.assertEqual([origin_long(script, long, index) for index in range(3)], [(BIG, ()), (BIG + 1, ()), (2 * BIG + 2, ())])
        script = Script(Tell("x", at=Range(Number(BIG - 3), Number(BIG + 4))), is_quiet=True)
        self.assertEqual(counts_long(script, long), (8,))
        script = Script(Print(at=Range(Number(7), Number(BIG))), is_quiet=True)
        self.assertTrue(run_long(script, long) == LongText((["a", "b"], BIG // 2 - 3)))
        script = Script(Print(at=Each(6, BIG)), is_quiet=True)
        self.assertEqual(counts_long(script, long), ((5 * BIG - BIG) // 6 + 1,))
        self.assertEqual(origin_long(script, long, 10 ** 29), (BIG + 6 * 10 ** 29, ()))
        script = Script(Stop(at=Number(10 ** 20)))
        self.assertEqual(run_long(script, long).length, 10 ** 20)

    def test_far_steps_and_ranges(self):
        long = LongText((["a", "b", "a"], BIG), (["z"], 1))
        script = Script(Print(at=Each(5, 2)), Tell("x", at=Range(Each(4, 1), Count(2))), is_quiet=True)
        self.assertEqual(counts_long(script, long), ((3 * BIG + 1 - 2) // 5 + 1, 2 * ((3 * BIG + 1) // 4) + 1))
        self.assertEqual(run_long(script, long).length, sum(counts_long(script, long)))
        script = Script(Drop(at=Range(If(Has("z")), Last())), Read(at=Range(Any(), If(Is("b")))), Print(), window=2, is_quiet=True)
        self.assertEqual(counts_long(script, long)[0], 1)

    def test_far_held_lines(self):
        long = LongText((["a", "b", "c"], BIG), (["d"], 1))
        script = Script(Keep(at=Number(2)), Keep(at=Each(3, 3)), PutFirst(), store=2, is_quiet=True)
        last = 3 * BIG
        self.assertEqual([origin_long(script, long, index) for index in (0, 1, 4, last - 1, last - 2)],
                         [(2, ()), (2, ()), (3, ()), (last - 3, ()), (last - 3, ())])
        script = Script(Keep(at=Number(2)), Put(at=Last()), Later("x", at=Last()), store=3, is_quiet=True)
        self.assertEqual([origin_long(script, long, 0), origin_long(script, long, 1)], [(2, ()), (0, (2,))])
        script = Script(Keep(), Put(at=Last()), store=3, is_quiet=True)
        self.assertEqual(run_long(script, long).part(1, 3), ["b", "c", "d"])
        self.assertEqual([origin_long(script, long, index) for index in range(3)], [(last - 1, ()), (last, ()), (last + 1, ())])
        script = Script(Keep(at=Number(1)), Put(), store=1)
        self.assertEqual([origin_long(script, long, index) for index in (0, 1, 2 * BIG, 2 * BIG + 1)],
                         [(1, ()), (1, ()), (1, ()), (BIG + 1, ())])
        script = Script(Read(at=Number(1)), Read(at=Number(2)), Print(at=Last()), Slide(), window=3, is_quiet=True)
        self.assertEqual([origin_long(script, long, index) for index in range(3)], [(last - 1, ()), (last, ()), (last + 1, ())])

    def test_far_changes(self):
        long = LongText((["ab", "b"], BIG), (["c"], 1))
        script = Script(Change(Every("b", "")), Print(at=Changed()), Change(Behind("x"), at=Last()), Drop(at=Not(Last())))
        self.assertTrue(run_long(script, long) == LongText((["a", ""], BIG), (["cx"], 1)))
        self.assertEqual(origin_long(script, long, 2 * BIG), (2 * BIG + 1, (0, 2)))
        self.assertEqual(origin_long(script, long, 2 * BIG - 1), (2 * BIG, (0,)))

    def test_long_blocks_are_not_written_out(self):
        for seed in range(60):
            chance = Chance(seed, far=10 ** 31, most_ranges=2)
            script = chance.script(12)
            long = LongText(*[(lines, BIG - seed) for lines, _ in chance.blocks(4)])
            found = run_long(script, long)
            self.assertTrue(all(times >= 1 and lines for lines, times in found.blocks))
            if found.length:
                self.assertEqual(len(origin_long(script, long, found.length - 1)), 2)
            if long.length:
                self.assertGreaterEqual(settled(script, long, long.length, "zz") or long.length, long.length)

    def test_a_loop_is_as_long_as_it_is_written_out(self):
        # Beyond the text that is written out, each loop adds the same.
        script = Script(Keep(at=Each(6, 1)), Tell("x", at=Range(Each(4, 2), Count(5))), Read(at=Each(5, 3)), Put(at=Each(4, 4)),
                        window=2, store=2)
        lengths = [run_long(script, LongText((["a", "b", "c", "d"], times))).length for times in (75, 150, 225, 75 * 10 ** 20)]
        self.assertEqual(lengths[:3], [len(Plain(script, list("abcd") * times).run()) for times in (75, 150, 225)])
        loop = lengths[2] - lengths[1]
        self.assertEqual(loop, lengths[1] - lengths[0])
        self.assertEqual(lengths[3], lengths[0] + loop * (10 ** 20 - 1))


class SettledTest(unittest.TestCase):
    def test_at_once_later_and_never(self):
        long = LongText((["a", "b"], 3))
        for script, number, line, expected in (
                (Script(), 1, "x", 2), (Script(), 5, "x", 6), (Script(), 6, "x", None), (Script(), 6, "b", 6), (Script(), 1, "a", 1),
                (Script(Keep(), store=2), 1, "x", 4), (Script(Keep(), store=3), 1, "x", 5), (Script(Keep(), store=3), 4, "x", None),
                (Script(Keep(at=Number(2)), store=1), 2, "x", None), (Script(Keep(at=Number(2)), store=1), 1, "x", 2),
                (Script(Read(), window=2), 1, "x", 3), (Script(Read(), window=2), 2, "x", 3), (Script(Leave()), 1, "x", 2),
                (Script(Leave()), 2, "x", 2), (Script(Leave()), 6, "x", 6), (Script(Stop(at=If(Is("x")))), 2, "x", None),
                (Script(Stop(at=If(Is("x"))), Stop(at=Number(4))), 2, "x", 5), (Script(Print(at=Range(If(Has("x")), Number(4)))), 2, "x", 5),
                (Script(Print(at=Range(If(Has("x")), Count(3)))), 2, "x", 5), (Script(Change(Swap("ax", "bb")), Keep(), store=1), 1, "x", 2)):
            self.assertEqual(settled(script, long, number, line), expected)
            self.assertEqual(settled(line=line, number=number, long=long, script=script), expected)

    def test_far_away(self):
        long = LongText((["a", "b"], BIG), (["c"], BIG))
        keep = Script(Keep(at=If(Has("a"))), Keep(at=If(Has("x"))), Forget(at=If(Has("c"))), store=1)
        self.assertEqual(settled(keep, long, 2, "x"), 4)
        self.assertEqual(settled(keep, long, 2 * BIG, "x"), 2 * BIG + 2)
        once = Script(Keep(at=Number(2)), Forget(at=If(Has("c"))), store=1)
        self.assertEqual(settled(once, long, 2, "x"), 2 * BIG + 2)
        self.assertEqual(settled(Script(Keep(at=Number(2)), store=1), long, 2, "x"), None)
        self.assertEqual(settled(Script(Keep(at=Number(2)), Forget(at=Number(BIG + 5)), store=1), long, 2, "x"), BIG + 6)
        self.assertEqual(settled(Script(Keep(at=Number(BIG)), Forget(at=Each(6, 2 * BIG)), store=1), long, BIG, "x"), 2 * BIG + 1)
        self.assertEqual(settled(Script(), long, 3 * BIG, "x"), None)
        self.assertEqual(settled(Script(), long, 3 * BIG - 1, "x"), 3 * BIG)
        self.assertEqual(settled(Script(Stop(at=If(Has("x"))), Leave(at=Number(3 * BIG - 1))), long, 1, "x"), 3 * BIG)
        self.assertEqual(settled(Script(Stop(at=If(Has("x"))), Leave(at=Number(3 * BIG))), long, 1, "x"), None)
        self.assertEqual(settled(Script(Leave(at=Number(7))), long, BIG, "x"), BIG)
        self.assertEqual(settled(Script(Read(at=If(Has("x"))), Tell("y"), window=2), long, 2, "x"), 4)

    def test_far_away_behind_steps(self):
        long = LongText((["a", "b"], BIG), (["c"], BIG))
        for step in range(1, 7):
            script = Script(Keep(at=Number(2)), Tell("y", at=Each(step, 1)), Forget(at=If(Has("c"))), store=1)
            self.assertEqual(settled(script, long, 2, "x"), 2 * BIG + 2)
        # Where the runs stand is the same ahead of the start of the Each and for a while behind it.
        script = Script(Keep(at=Number(1)), Skip(1, at=Not(Each(5, 18))), Forget(at=If(Is("a"))), store=1)
        for times in (30, 31, 33, BIG, BIG + 2 - 3):
            self.assertEqual(settled(script, LongText((["a", "b", "c", "d"], times)), 1, "x"), 34)
        script = Script(Keep(at=Number(1)), Skip(1, at=Not(Each(5, BIG + 18))), Forget(at=If(Is("a"))), store=1)
        self.assertEqual(settled(script, LongText((["a", "b", "c", "d"], BIG)), 1, "x"), BIG + 34)

    def test_beside_sessions(self):
        for seed in range(500):
            chance = Chance(seed, far=6 if seed % 3 else 60, most_ranges=2)
            script, blocks = chance.script(10), chance.blocks(3, 30)
            text, long = written(blocks), LongText(*blocks)
            if text:
                for _ in range(2):
                    number, line = chance.random.randint(1, len(text)), chance.line()
                    self.assertEqual(settled(script, long, number, line), settled_plainly(script, text, number, line))

    def test_each_line_of_short_texts(self):
        for seed in range(60):
            chance = Chance(seed, most_ranges=2)
            script, text = chance.script(), chance.text(6)
            for number in range(1, len(text) + 1):
                for line in lines_of("ab", 1):
                    self.assertEqual(settled(script, LongText.of(text), number, line), settled_plainly(script, text, number, line))


if __name__ == "__main__":
    unittest.main()
