"""[31], [32], [33], [35]: addresses, commands and scripts."""

import unittest

from linestream.changes import Every, First, Swap
from linestream.conditions import Has, Is
from linestream.errors import InvalidAddress, InvalidCommand, InvalidRoom, InvalidSkip, TooMany
from linestream.linesets import LineSet
from linestream.scripts import (
    Address, Any, Change, Changed, Command, Count, Drop, Each, Forget, ForgetFirst, If, Keep, Kept, Last, Later, Leave,
    Not, Number, Print, PrintFirst, Put, PutFirst, Range, Read, Script, Skip, Slide, Stop, Tell)
from tests.samples import LETTERS, any_values, some_addresses, some_changes, some_commands, some_tests

PLAIN = (Print, PrintFirst, Keep, Put, PutFirst, Forget, ForgetFirst, Read, Drop, Slide, Stop, Leave)
NO_COUNTS = [0, -1, True, False, None, "1", 1.0, (), [1], {1: 1}, -(10 ** 59)]


def nots(many, address):
    """An address within so many Nots."""
    for _ in range(many):
        address = Not(address)
    return address


class CheckedTest(unittest.TestCase):
    def assert_address(self, argument, kind, *arguments, **named):
        with self.assertRaises(InvalidAddress) as caught:
            kind(*arguments, **named)
        self.assertEqual(caught.exception.argument, argument)

    def assert_command(self, argument, kind, *arguments, **named):
        with self.assertRaises(InvalidCommand) as caught:
            kind(*arguments, **named)
        self.assertEqual(caught.exception.argument, argument)


class AddressTest(CheckedTest):
    def test_below_address(self):
        for kind in (Any, Number, Each, Last, If, Changed, Kept, Not, Range):
            self.assertTrue(issubclass(kind, Address))
            self.assertIn("__eq__", vars(kind))
        self.assertFalse(issubclass(Count, Address))

    def test_arguments_by_position_and_by_name(self):
        test = Has("a")
        self.assertEqual([Number(3).number, Number(number=3).number], [3, 3])
        self.assertEqual([Each(2, 5).step, Each(2, 5).start], [2, 5])
        self.assertEqual([Each(start=5, step=2).step, Each(start=5, step=2).start], [2, 5])
        self.assertEqual([If(test).test, If(test=test).test], [test, test])
        self.assertEqual([Kept(test).test, Kept(test=test).test], [test, test])
        self.assertEqual([Kept().test, Kept(None).test, Kept(test=None).test], [None] * 3)
        self.assertEqual([Not(Last()).address, Not(address=Last()).address], [Last(), Last()])
        self.assertEqual([Range(Any(), Last()).start, Range(Any(), Last()).stop], [Any(), Last()])
        self.assertEqual([Range(stop=Count(2), start=Last()).start, Range(Any(), Count(2)).stop], [Last(), Count(2)])
        self.assertEqual([Count(3).number, Count(number=3).number], [3, 3])

    def test_numbers(self):
        for number in (1, 2, 10 ** 30, 10 ** 60 - 1):
            self.assertEqual([Number(number).number, Count(number).number], [number] * 2)
            self.assertEqual([Each(number, 1).step, Each(1, number).start], [number] * 2)
        for value in NO_COUNTS:
            with self.subTest(value=value):
                for kind in (Number, Count):
                    self.assert_address("number", kind, value)
                    self.assert_address("number", kind, number=value)
                self.assert_address("step", Each, value, 1)
                self.assert_address("start", Each, 1, value)
                self.assert_address("step", Each, value, value)
                self.assert_address("step", Each, start=value, step=0)
                self.assert_address("start", Each, start=value, step=1)

    def test_numbers_of_any_kind(self):
        for value in any_values() + some_tests() + some_changes() + some_addresses() + some_commands():
            if type(value) is int and value > 0:
                continue
            with self.subTest(value=value):
                for kind in (Number, Count):
                    self.assert_address("number", kind, value)
                self.assert_address("step", Each, value, 1)
                self.assert_address("start", Each, 1, value)

    def test_tests_of_any_kind(self):
        for test in some_tests():
            self.assertEqual([If(test).test, Kept(test).test], [test, test])
        for value in any_values() + some_changes() + some_addresses() + some_commands() + ["", "a"]:
            with self.subTest(value=value):
                self.assert_address("test", If, value)
                self.assert_address("test", If, test=value)
                if value is not None:
                    self.assert_address("test", Kept, value)
                    self.assert_address("test", Kept, test=value)

    def test_addresses_of_any_kind(self):
        for value in any_values() + some_tests() + some_changes() + some_commands() + ["", "any", Any, Last]:
            with self.subTest(value=value):
                self.assert_address("address", Not, value)
                self.assert_address("address", Not, address=value)
                self.assert_address("start", Range, value, Any())
                self.assert_address("start", Range, value, value)
                self.assert_address("start", Range, stop=None, start=value)
                if value != Count(1):
                    self.assert_address("stop", Range, Any(), value)
                    self.assert_address("stop", Range, stop=value, start=Any())
        self.assert_address("start", Range, Count(1), Count(1))

    def test_a_count_is_no_address(self):
        self.assert_address("address", Not, Count(1))
        self.assert_address("start", Range, Count(1), Any())
        self.assert_command("at", Print, at=Count(1))

    def test_no_range_within_a_range(self):
        inner = Range(Any(), Count(2))
        for address in (inner, Not(inner), nots(3, inner), nots(6, inner)):
            self.assert_address("start", Range, address, Any())
            self.assert_address("start", Range, address, address)
            self.assert_address("stop", Range, Any(), address)
            self.assert_address("stop", Range, stop=address, start=Not(Any()))
        self.assertEqual(Not(Not(inner)).address.address, inner)

    def test_eight_within_one_another(self):
        self.assertEqual(nots(7, Any()).address, nots(6, Any()))
        self.assert_address("address", Not, nots(7, Any()))
        self.assertEqual(Range(nots(6, Any()), Count(9)).start, nots(6, Any()))
        self.assertEqual(Range(Any(), nots(6, Last())).stop, nots(6, Last()))
        self.assert_address("start", Range, nots(7, Any()), Any())
        self.assert_address("stop", Range, Any(), nots(7, Any()))
        self.assert_address("start", Range, nots(7, Any()), nots(7, Any()))
        self.assertEqual(nots(6, Range(Any(), Count(1))).address, nots(5, Range(Any(), Count(1))))
        self.assert_address("address", Not, nots(6, Range(Any(), Count(1))))
        self.assert_address("address", Not, Range(nots(6, Any()), Any()))
        self.assert_address("address", Not, Range(Any(), nots(6, Any())))
        self.assertEqual(Not(Range(nots(5, Any()), nots(5, Any()))).address.start, nots(5, Any()))

    def test_equal_and_unequal(self):
        for at, one in enumerate(some_addresses()):
            for place, other in enumerate(some_addresses()):
                self.assertIs(one == other, at == place)
                self.assertIs(one != other, at != place)
        self.assertIs(Count(1) == Count(1), True)
        self.assertIs(Count(1) == Count(2), False)
        self.assertIs(Count(1) != Count(2), True)

    def test_values_of_another_kind(self):
        for address in [*some_addresses(), Count(3)]:
            for value in any_values() + some_tests() + some_commands() + ["a", 2, Any, object()]:
                self.assertIs(address == value, False)
                self.assertIs(value == address, False)
                self.assertIs(address != value, True)
        self.assertIs(Count(1) == Number(1), False)
        self.assertIs(Number(1) == Count(1), False)


class CommandTest(CheckedTest):
    def test_below_command(self):
        for kind in (*PLAIN, Change, Tell, Later, Skip):
            self.assertTrue(issubclass(kind, Command))
            self.assertIn("__eq__", vars(kind))

    def test_arguments_by_position_and_by_name(self):
        change = First("a", "b")
        self.assertEqual([Change(change).change, Change(change=change).change], [change, change])
        self.assertEqual([Tell("a").line, Tell(line="a").line, Later("").line, Later(line="b").line], ["a", "a", "", "b"])
        self.assertEqual([Skip(1).many, Skip(many=10 ** 60 - 1).many], [1, 10 ** 60 - 1])
        self.assertEqual([Tell(at=Last(), line="a").at, Skip(2, at=Number(1)).at], [Last(), Number(1)])

    def test_at(self):
        for make in [*PLAIN, lambda **at: Change(Every("a", ""), **at), lambda **at: Tell("a", **at),
                     lambda **at: Later("a", **at), lambda **at: Skip(1, **at)]:
            self.assertEqual([make().at, make(at=None).at, make(at=Any()).at], [Any()] * 3)
            for address in some_addresses():
                self.assertEqual(make(at=address).at, address)
            for value in any_values() + some_tests() + some_changes() + some_commands() + ["", "any", Any]:
                if value is not None:
                    self.assert_command("at", make, at=value)

    def test_at_by_name_only(self):
        for kind in PLAIN:
            self.assertRaises(TypeError, kind, Any())
        for kind, argument in ((Tell, "a"), (Later, "a"), (Skip, 1), (Change, First("a", ""))):
            self.assertRaises(TypeError, kind, argument, Any())

    def test_values_of_any_kind(self):
        for value in any_values() + some_tests() + some_addresses() + some_commands():
            with self.subTest(value=value):
                for kind in (Tell, Later):
                    self.assert_command("line", kind, value)
                    self.assert_command("line", kind, line=value)
                    self.assert_command("line", kind, value, at=value)
                self.assert_command("change", Change, value)
                self.assert_command("change", Change, change=value, at=None)
                if type(value) is not int or value < 1:
                    self.assert_command("many", Skip, value)
                    self.assert_command("many", Skip, many=value, at=0)
        for value in some_changes():
            self.assertEqual(Change(value).change, value)
            self.assert_command("line", Tell, value)
        for value in NO_COUNTS:
            self.assert_command("many", Skip, value)

    def test_the_first_wrong_argument(self):
        for kind, argument in ((Change, "change"), (Tell, "line"), (Later, "line"), (Skip, "many")):
            self.assert_command(argument, kind, None, at="a")
            self.assert_command(argument, kind, at=0, **{argument: None})
        self.assert_command("at", Skip, 1, at=False)
        self.assert_command("at", Tell, "", at="")

    def test_lines_of_any_length(self):
        for line in ("", "a", LETTERS, "a" * 100000):
            self.assertEqual([Tell(line).line, Later(line).line], [line, line])

    def test_equal_and_unequal(self):
        for at, one in enumerate(some_commands()):
            for place, other in enumerate(some_commands()):
                self.assertIs(one == other, at == place)
                self.assertIs(one != other, at != place)
        self.assertIs(Print() == Print(at=Any()), True)
        self.assertIs(Tell("a") == Later("a"), False)

    def test_values_of_another_kind(self):
        for command in some_commands():
            for value in any_values() + some_tests() + some_addresses() + ["a", 1, Print, object()]:
                self.assertIs(command == value, False)
                self.assertIs(value == command, False)
                self.assertIs(command != value, True)


class ScriptTest(CheckedTest):
    def assert_raised(self, error, name, expected, *commands, **named):
        with self.assertRaises(error) as caught:
            Script(*commands, **named)
        self.assertEqual(getattr(caught.exception, name), expected)
        return getattr(caught.exception, name)

    def test_properties(self):
        script = Script()
        self.assertEqual([script.commands, script.window, script.store, script.is_quiet], [(), 1, 0, False])
        self.assertEqual([script.ranges, len(script)], [(), 0])
        script = Script(Print(), Keep(at=Last()), store=3, window=2, is_quiet=True)
        self.assertEqual(script.commands, (Print(), Keep(at=Last())))
        self.assertEqual([script.window, script.store, script.is_quiet, len(script)], [2, 3, True, 2])
        self.assertIs(script.is_quiet, True)
        self.assertIs(type(script.commands), tuple)
        for name in ("commands", "window", "store", "is_quiet", "ranges"):
            self.assertRaises(AttributeError, setattr, script, name, 1)

    def test_rooms_by_name_only(self):
        for value in (1, 2, False):
            self.assert_raised(InvalidCommand, "argument", "commands", Print(), value)

    def test_many_commands(self):
        for many in (0, 1, 12):
            self.assertEqual(len(Script(*[Print()] * many)), many)
        for many in (13, 14, 100):
            self.assert_raised(TooMany, "limit", 12, *[Print()] * many)

    def test_no_commands(self):
        for value in any_values() + some_tests() + some_changes() + some_addresses() + ["", "print", Print, [Print()]]:
            self.assert_raised(InvalidCommand, "argument", "commands", value)
            self.assert_raised(InvalidCommand, "argument", "commands", Print(), value)
            self.assert_raised(InvalidCommand, "argument", "commands", value, Skip(9), window=0, store=9)
        for command in some_commands():
            self.assertEqual(Script(command, Print(), Print()).commands[0], command)

    def test_skips(self):
        for many in range(1, 12):
            self.assertEqual(Script(Skip(many), *[Print()] * many).commands[0], Skip(many))
            self.assert_raised(InvalidSkip, "index", 0, Skip(many + 1), *[Print()] * many)
            self.assert_raised(InvalidSkip, "index", 0, Skip(10 ** 30), *[Print()] * many)
        self.assert_raised(InvalidSkip, "index", 0, Skip(1))
        self.assert_raised(InvalidSkip, "index", 1, Skip(1), Skip(1))
        self.assert_raised(InvalidSkip, "index", 1, Skip(2), Skip(3), Skip(5), Print())
        self.assert_raised(InvalidSkip, "index", 2, Print(), Skip(2), Skip(2), Print())
        self.assertEqual(len(Script(Skip(2), Skip(1), Skip(1), Print())), 4)

    def test_rooms(self):
        for window in (1, 2, 3):
            for store in (0, 1, 2, 3):
                script = Script(window=window, store=store)
                self.assertEqual([script.window, script.store], [window, store])
        for value in (0, -1, 4, 5, 10 ** 59, True, False, None, "1", (), [1], 1.0, (1,)):
            self.assertIs(self.assert_raised(InvalidRoom, "value", value, window=value), value)
        for value in (-1, 4, 5, 10 ** 59, True, False, None, "0", (), [0], 0.0):
            self.assertIs(self.assert_raised(InvalidRoom, "value", value, store=value), value)

    def test_rooms_of_any_kind(self):
        for value in any_values() + some_tests() + some_commands() + some_addresses():
            if type(value) is not int or not 1 <= value <= 3:
                self.assert_raised(InvalidRoom, "value", value, window=value)
                self.assert_raised(InvalidRoom, "value", value, window=value, store=9)
            if type(value) is not int or not 0 <= value <= 3:
                self.assert_raised(InvalidRoom, "value", value, store=value)
                self.assert_raised(InvalidRoom, "value", value, Print(), store=value, window=3)

    def test_two_errors(self):
        many = [Print()] * 13
        self.assert_raised(InvalidCommand, "argument", "commands", *many, None)
        self.assert_raised(InvalidCommand, "argument", "commands", Skip(1), None)
        self.assert_raised(TooMany, "limit", 12, *many, Skip(5))
        self.assert_raised(TooMany, "limit", 12, *many, window=0)
        self.assert_raised(InvalidSkip, "index", 0, Skip(1), window=0, store=9)
        self.assert_raised(InvalidSkip, "index", 0, Skip(1), store=-1)
        self.assert_raised(InvalidRoom, "value", 0, store=9, window=0)
        self.assert_raised(InvalidRoom, "value", 9, store=9, window=3)

    def test_ranges(self):
        one, other = Range(Any(), Count(2)), Range(Number(1), Last())
        for commands, expected in (
                ([Print()], ()), ([Print(at=one)], (one,)), ([Print(at=one), Tell("a"), Drop(at=other)], (one, other)),
                ([Print(at=other), Drop(at=one)], (other, one)), ([Print(at=one), Print(at=one)], (one, one)),
                ([Print(at=Not(one)), Skip(1, at=nots(3, other)), Keep(at=one)], (one, other, one)),
                ([Print(at=Not(Any())), Print(at=Range(Not(Last()), Not(Any())))], (Range(Not(Last()), Not(Any())),))):
            script = Script(*commands)
            self.assertEqual(script.ranges, expected)
            self.assertIs(type(script.ranges), tuple)

    def test_equal_and_unequal(self):
        scripts = [Script(), Script(Print()), Script(Print(at=Last())), Script(Print(), Print()), Script(Print(), window=2),
                   Script(window=2), Script(store=1), Script(is_quiet=True), Script(window=2, store=2), Script(Tell("a")),
                   Script(Tell("a"), Print()), Script(Print(), Tell("a")), Script(Change(Swap("a", "b")))]
        same = [Script(), Script(Print(at=None)), Script(Print(at=Last())), Script(Print(at=Any()), Print()),
                Script(Print(), window=2), Script(window=2), Script(store=1), Script(is_quiet=True),
                Script(store=2, window=2), Script(Tell("a")), Script(Tell("a"), Print()), Script(Print(), Tell("a")),
                Script(Change(Swap("a", "b")))]
        for at, one in enumerate(scripts):
            for place, other in enumerate(same):
                self.assertIs(one == other, at == place)
                self.assertIs(one != other, at != place)
            for value in [*some_commands(), None, 0, (), (Print(),), [Print()], {}, LineSet(), Script, Is("")]:
                self.assertIs(one == value, False)
                self.assertIs(value == one, False)


if __name__ == "__main__":
    unittest.main()
