"""[30] to [34], [36], [37]: how scripts go through texts."""

import copy
import types
import unittest

from linestream import running
from linestream.changes import Behind, Every, First, Front, Swap
from linestream.conditions import Ends, Fails, Has, Is
from linestream.errors import InvalidText
from linestream.scripts import (
    Any, Change, Changed, Count, Drop, Each, Forget, ForgetFirst, If, Keep, Kept, Last, Later, Leave, Not, Number, Print,
    PrintFirst, Put, PutFirst, Range, Read, Script, Skip, Slide, Stop, Tell)
from tests.made import Chance
from tests.plainly import Plain
from tests.samples import any_values, some_addresses, some_changes, some_commands, some_tests

TEN = list("abcdefghij")


def lines_in(text):
    """A string stands for the text of its letters here."""
    return list(text) if isinstance(text, str) else text


def run(script, text):
    return running.run(script, lines_in(text))


def counts(script, text):
    return running.counts(script, lines_in(text))


def origins(script, text):
    return running.origins(script, lines_in(text))


def trace(script, text):
    return running.trace(script, lines_in(text))


def held_at(address, text=tuple(TEN)):
    """The numbers of the lines for which an address holds."""
    return [number for number, _ in origins(Script(Print(at=address), is_quiet=True), text)]


def told(*commands, text=("a", "b", "c"), **rooms):
    """What is printed, quietly."""
    return run(Script(*commands, is_quiet=True, **rooms), text)


class AddressTest(unittest.TestCase):
    def test_any_number_last(self):
        for address, expected in (
                (Any(), list(range(1, 11))), (Number(1), [1]), (Number(10), [10]), (Number(11), []), (Number(10 ** 50), []),
                (Last(), [10]), (Not(Any()), []), (Not(Last()), list(range(1, 10))), (Not(Number(3)), [1, 2, 4, 5, 6, 7, 8, 9, 10]),
                (Not(Not(Number(3))), [3])):
            self.assertEqual(held_at(address), expected)
        self.assertEqual([held_at(Last(), ["a"]), held_at(Last(), []), held_at(Any(), [])], [[1], [], []])

    def test_each(self):
        for step in range(1, 12):
            for start in range(1, 12):
                self.assertEqual(held_at(Each(step, start)), list(range(start, 11, step)))
        self.assertEqual([held_at(Each(10 ** 50, 2)), held_at(Each(1, 10 ** 50))], [[2], []])

    def test_if(self):
        self.assertEqual(held_at(If(Has("c"))), [3])
        self.assertEqual(held_at(If(Fails(Has("c"))), TEN[:4]), [1, 2, 4])
        self.assertEqual(held_at(If(Is("")), ["", "a", ""]), [1, 3])

    def test_if_behind_a_change(self):
        self.assertEqual(told(Print(at=If(Has("x"))), Change(Front("x"), at=Number(2)), Print(at=If(Has("x")))), ["xb"])
        self.assertEqual(told(Change(First("a", "b")), Print(at=If(Is("b")))), ["b", "b"])

    def test_changed(self):
        for change, expected in (
                (First("a", "b"), ["b"]), (First("a", "a"), ["a"]), (Every("x", ""), []), (Every("b", ""), [""]),
                (Swap("x", "y"), ["a", "b", "c"]), (Swap("a", "a"), ["a", "b", "c"]), (Front("x"), ["xa", "xb", "xc"]),
                (Behind("x"), ["ax", "bx", "cx"])):
            self.assertEqual(told(Print(at=Changed()), Change(change), Print(at=Changed())), expected)

    def test_changed_since_it_was_read(self):
        self.assertEqual(told(Change(First("a", "b")), Change(First("x", "y")), Print(at=Changed())), ["b"])
        self.assertEqual(told(Change(First("a", "x")), Read(at=Number(1)), Print(at=Changed()), window=2), [])
        self.assertEqual(told(Change(First("a", "x")), Slide(at=Number(1)), Print(at=Changed()), window=2), [])
        self.assertEqual(told(Change(First("b", "x")), Read(at=Number(1)), Change(First("b", "x")), Print(at=Changed()),
                              window=2), ["a", "x"])
        self.assertEqual(told(Print(at=Changed()), Change(Front("x"))), [])

    def test_kept(self):
        self.assertEqual(told(Print(at=Kept()), Keep(at=Number(1)), store=1), ["b", "c"])
        self.assertEqual(told(Keep(), Print(at=Kept()), store=0), [])
        self.assertEqual(told(Keep(), Forget(at=Number(2)), Print(at=Kept()), store=2), ["a", "c"])
        self.assertEqual(told(Keep(), Print(at=Kept(Is("b"))), store=3), ["b"])
        self.assertEqual(told(Keep(at=Number(1)), Change(Front("x")), Print(at=Kept(Is("a"))), store=1), ["xa", "xb", "xc"])
        self.assertEqual(told(Change(Front("x")), Keep(at=Number(1)), Print(at=Kept(Is("a"))), store=1), [])
        self.assertEqual(told(Print(at=Kept(Fails(Has("z")))), store=3), [])
        self.assertEqual(told(Keep(), ForgetFirst(), Print(at=Kept()), store=1), [])
        self.assertEqual(told(Keep(), ForgetFirst(at=Number(2)), Print(at=Kept(Is("b"))), store=2), ["b"])

    def test_an_address_is_asked_only_when_its_command_is_come_to(self):
        two = Range(Any(), Count(2))
        self.assertEqual(told(Skip(1, at=Not(Number(2))), Tell("x", at=Not(Range(Number(1), Number(3))))), ["x"])
        self.assertEqual(told(Skip(1, at=Number(2)), Tell("x", at=Range(Number(1), Count(2))), text=TEN), ["x", "x"])
        self.assertEqual(told(Drop(at=Number(2)), Tell("x", at=two), Skip(1, at=two), Tell("y"), text="abcd"), ["x"] * 3)


class RangeTest(unittest.TestCase):
    def test_starts_and_stops(self):
        for start, stop, expected in (
                (Number(3), Number(5), [3, 4, 5]), (Number(3), Number(3), [3]), (Number(3), Number(2), [3]),
                (Number(3), Number(99), [3, 4, 5, 6, 7, 8, 9, 10]), (Each(4, 2), Number(1), [2, 6, 10]),
                (Each(4, 2), Number(6), [2, 3, 4, 5, 6, 10]), (Number(3), Count(1), [3]), (Number(3), Count(2), [3, 4]),
                (Number(3), Count(99), [3, 4, 5, 6, 7, 8, 9, 10]), (Each(4, 2), Count(3), [2, 3, 4, 6, 7, 8, 10]),
                (Any(), Count(1), list(range(1, 11))), (Any(), Count(3), list(range(1, 11))),
                (Number(2), If(Has("d")), [2, 3, 4]), (If(Has("d")), If(Has("d")), [4, 5, 6, 7, 8, 9, 10]),
                (Any(), Any(), list(range(1, 11))), (Each(3, 1), Any(), [1, 2, 4, 5, 7, 8, 10]), (Last(), Any(), [10]),
                (Number(9), Last(), [9, 10]), (Number(10), Last(), [10]), (Number(2), Not(Any()), list(range(2, 11))),
                (Number(2), Each(3, 2), [2, 3, 4, 5]), (Not(Any()), Any(), []), (Not(Number(1)), Number(4), list(range(2, 11)))):
            self.assertEqual(held_at(Range(start, stop)), expected, (start, stop))
            self.assertEqual(held_at(Not(Range(start, stop))), [at for at in range(1, 11) if at not in expected])
            self.assertEqual(held_at(Not(Not(Range(start, stop)))), expected)

    def test_it_begins_anew_behind_its_number(self):
        for text in ([], ["a"], ["a", "b"], TEN):
            self.assertEqual(held_at(Range(Any(), Number(2)), text), list(range(1, len(text) + 1)))
        self.assertEqual(held_at(Range(Each(2, 1), Number(4))), [1, 2, 3, 4, 5, 7, 9])

    def test_the_stop_is_not_asked_when_it_opens(self):
        self.assertEqual(held_at(Range(If(Has("a")), If(Has("a"))), ["a", "b", "a", "b", "a", "a"]), [1, 2, 3, 5, 6])
        self.assertEqual(held_at(Range(If(Has("a")), Not(If(Has("a")))), ["a", "a", "b", "b", "a", "b"]), [1, 2, 3, 5, 6])

    def test_the_start_is_not_asked_while_it_is_open(self):
        self.assertEqual(held_at(Range(Any(), Not(Any())), TEN), list(range(1, 11)))
        self.assertEqual(held_at(Range(Not(Last()), Count(3)), TEN[:4]), [1, 2, 3])

    def test_passed_by_while_it_is_open(self):
        self.assertEqual(told(Skip(1, at=Range(Number(2), Number(3))), Tell("x", at=Range(Any(), Count(3))), text=TEN[:6]),
                         ["x"] * 4)
        for passed_by, expected in ((Number(2), [1, 3]), (Number(4), [1, 2]), (Range(Number(2), Number(3)), [1, 4])):
            script = Script(Drop(at=passed_by), Print(at=Range(Number(1), Count(2))), is_quiet=True)
            self.assertEqual([number for number, _ in origins(script, TEN)], expected)
        script = Script(Drop(at=Number(3)), Print(at=Range(Number(1), Number(3))), is_quiet=True)
        self.assertEqual([number for number, _ in origins(script, TEN)], [1, 2, 4])
        script = Script(Drop(at=Number(3)), Print(at=Range(Number(1), If(Has("c")))), is_quiet=True)
        self.assertEqual([number for number, _ in origins(script, TEN)], [1, 2, 4, 5, 6, 7, 8, 9, 10])

    def test_the_same_object_at_two_commands(self):
        one = Range(Number(1), Count(3))
        self.assertEqual(counts(Script(Tell("x", at=one), Tell("y", at=one)), TEN), (3, 3))
        self.assertEqual(counts(Script(Drop(at=Number(2)), Tell("x", at=one), Skip(1, at=Number(3)), Tell("y", at=one)), TEN),
                         (1, 3, 1, 3))
        self.assertEqual(counts(Script(Tell("x", at=one), Tell("y", at=Not(one))), TEN), (3, 7))

    def test_within_a_not(self):
        script = Script(Print(at=Not(Range(Number(2), Count(2)))), Tell("x", at=Not(Not(Range(Number(2), Count(2))))),
                        is_quiet=True)
        self.assertEqual(run(script, TEN[:5]), ["a", "x", "x", "d", "e"])

    def test_each_run_begins_closed(self):
        script = Script(Print(at=Range(Number(1), Number(9))), is_quiet=True)
        self.assertEqual([run(script, "ab"), run(script, "ab"), len(run(script, TEN))], [["a", "b"], ["a", "b"], 9])

    def test_asked_twice_in_a_round(self):
        script = Script(Read(), Print(at=Range(Number(2), Count(2))), window=2, is_quiet=True)
        self.assertEqual(run(script, TEN[:6]), ["a", "b", "c", "d"])


class RoomTest(unittest.TestCase):
    def test_windows(self):
        for window, expected in ((1, ["c"]), (2, ["b", "c"]), (3, ["a", "b", "c"])):
            script = Script(Read(), Read(), window=window)
            self.assertEqual(run(script, ["a", "b", "c"]), expected)
            self.assertEqual(run(Script(Read(), Read(), Print(), window=window, is_quiet=True), "abcdef"),
                             expected + [{"a": "d", "b": "e", "c": "f"}[line] for line in expected])
            self.assertEqual(told(Read(), Read(), PrintFirst(), window=window), expected[:1])

    def test_stores(self):
        for store, expected in ((0, []), (1, ["d"]), (2, ["c", "d"]), (3, ["b", "c", "d"])):
            self.assertEqual(told(Keep(), Put(at=Last()), store=store, text="abcd"), expected)
            self.assertEqual(told(Keep(), PutFirst(at=Last()), store=store, text="abcd"), expected[:1])
            self.assertEqual(told(Keep(), ForgetFirst(at=Last()), Put(at=Last()), store=store, text="abcd"), expected[1:])
            self.assertEqual(told(Keep(), Forget(at=Last()), Put(at=Last()), store=store, text="abcd"), [])
            self.assertEqual(told(Keep(), Put(at=Last()), store=store, text="abcd", window=3), expected)

    def test_put_leaves_the_store(self):
        self.assertEqual(told(Keep(at=Number(1)), Put(), Put(), store=1), ["a"] * 6)
        self.assertEqual(told(Keep(at=Number(1)), PutFirst(), store=2), ["a"] * 3)
        self.assertEqual(told(Put(), PutFirst(), ForgetFirst(), Forget(), store=3), [])

    def test_kept_lines_are_never_changed(self):
        script = Script(Keep(), Change(Front("x")), Keep(), Put(at=Last()), store=3, is_quiet=True)
        self.assertEqual(run(script, "ab"), ["xa", "b", "xb"])
        self.assertEqual(origins(script, "ab"), [(1, (1,)), (2, ()), (2, (1,))])

    def test_changes_are_done_to_the_newest_line_alone(self):
        self.assertEqual(run(Script(Read(), Change(Front("x")), window=2), "abcd"), ["a", "xb", "c", "xd"])
        self.assertEqual(run(Script(Change(Front("x")), Read(), window=2), "abcd"), ["xa", "b", "xc", "d"])
        self.assertEqual(run(Script(Change(Every("a", "b")), Change(Every("b", "c"))), ["ab", "", "d"]), ["cc", "", "d"])


class RoundTest(unittest.TestCase):
    def ended(self, *commands, text=("a", "b", "c"), **rooms):
        """What is printed, and the window behind each round."""
        script = Script(*commands, **rooms)
        return run(script, text), [each["window"] for each in trace(script, text)]

    def test_behind_the_last_command(self):
        for is_quiet, expected in ((False, ["a", "b", "c"]), (True, [])):
            self.assertEqual(self.ended(is_quiet=is_quiet), (expected, [(), (), ()]))
            self.assertEqual(self.ended(is_quiet=is_quiet, window=3), (expected, [(), (), ()]))
        self.assertEqual(run(Script(Later("x"), Tell("y")), "ab"), ["y", "a", "x", "y", "b", "x"])
        self.assertEqual(told(Later("x"), Tell("y"), Later("z"), text="ab"), ["y", "x", "z"] * 2)
        self.assertEqual(run(Script(Print(), Tell("x"), Print()), "a"), ["a", "x", "a", "a"])

    def test_drop(self):
        self.assertEqual(self.ended(Drop()), ([], [(), (), ()]))
        self.assertEqual(run(Script(Later("x"), Drop(at=Number(1)), Later("y")), "ab"), ["x", "b", "x", "y"])
        self.assertEqual(self.ended(Read(), Drop(), window=2), (["c"], [(), ()]))
        self.assertEqual(run(Script(Drop(), Tell("x")), "ab"), [])

    def test_slide(self):
        self.assertEqual(self.ended(Slide()), ([], [(), (), ()]))
        self.assertEqual(self.ended(Read(at=Number(1)), PrintFirst(), Slide(), window=2), (["a", "b"], [("b",), ("c",)]))
        self.assertEqual(self.ended(Read(at=Number(1)), Print(), Slide(), window=2), (list("abbc"), [("b",), ("c",)]))
        self.assertEqual(self.ended(Read(at=Number(1)), Read(at=Number(2)), Slide(), window=3), ([], [("b", "c")]))
        self.assertEqual(run(Script(Later("x"), Slide()), "ab"), ["x", "x"])
        self.assertEqual(run(Script(Read(at=Number(1)), Slide(at=Number(2)), window=2), "abcd"), ["b", "c", "d"])
        self.assertEqual(self.ended(Read(at=Number(1)), Read(at=Number(2)), Slide(at=Not(Last())), window=3, text="abcd"),
                         (["b", "c", "d"], [("b", "c"), ()]))

    def test_stop(self):
        self.assertEqual(self.ended(Stop(at=Number(2))), (["a", "b"], [(), ()]))
        self.assertEqual(self.ended(Stop(at=Number(2)), is_quiet=True), ([], [(), ()]))
        self.assertEqual(run(Script(Later("x"), Stop(), Tell("y")), "ab"), ["a", "x"])
        self.assertEqual(run(Script(Later("x"), Stop(), is_quiet=True), "ab"), ["x"])
        self.assertEqual(self.ended(Read(), Stop(), window=2), (["a", "b"], [()]))

    def test_leave(self):
        self.assertEqual(self.ended(Leave(at=Number(2))), (["a"], [(), ("b",)]))
        self.assertEqual(run(Script(Later("x"), Tell("y"), Leave(at=Number(2))), "abc"), ["y", "a", "x", "y"])
        self.assertEqual(self.ended(Read(), Tell("x"), Leave(), window=2), (["x"], [("a", "b")]))

    def test_read(self):
        self.assertEqual(self.ended(Read()), (["b", "c"], [(), ()]))
        self.assertEqual(self.ended(Read(), window=2, text="abcd"), (["a", "b", "c", "d"], [(), ()]))
        self.assertEqual(self.ended(Read(), window=2), (["a", "b", "c"], [(), ()]))
        self.assertEqual(self.ended(Later("x"), Read(), Tell("y"), text="a"), (["a", "x"], [()]))
        self.assertEqual(self.ended(Later("x"), Read(), Tell("y"), text="a", is_quiet=True), (["x"], [()]))
        self.assertEqual(counts(Script(Read(), Tell("y")), "abc"), (2, 1))
        self.assertEqual(counts(Script(Read(), Read(), Read()), "ab"), (1, 1, 0))
        self.assertEqual(run(Script(Later("x"), Read(), Later("y"), window=2), "abcd"), ["a", "b", "x", "y", "c", "d", "x", "y"])
        self.assertEqual(told(Read(), Print(at=Number(2)), Print(at=Number(1)), text="ab"), ["b"])

    def test_skip(self):
        self.assertEqual(told(Skip(1), Tell("x"), Tell("y"), text="a"), ["y"])
        self.assertEqual(told(Skip(2, at=Number(1)), Tell("x"), Tell("y"), Tell("z"), text="ab"), ["z", "x", "y", "z"])
        self.assertEqual(told(Skip(1), Skip(1), Tell("x"), text="a"), ["x"])
        self.assertEqual(run(Script(Skip(1), Change(Front("x"))), "a"), ["a"])
        self.assertEqual(run(Script(Skip(3), Drop(), Stop(), Leave()), "ab"), ["a", "b"])
        self.assertEqual(counts(Script(Skip(1, at=Number(2)), Tell("x", at=Range(Number(1), Count(3)))), TEN), (1, 3))

    def test_no_rounds(self):
        for script in (Script(), Script(Tell("x")), Script(Later("x"), Stop()), Script(Leave(), store=3, window=3)):
            self.assertEqual([run(script, []), origins(script, ()), list(trace(script, []))], [[], [], []])
            self.assertEqual(counts(script, []), (0,) * len(script))


class OriginsTest(unittest.TestCase):
    def test_changes(self):
        script = Script(Change(First("z", "")), Print(), Change(Front("x"), at=Number(2)), Change(Swap("a", "a")))
        self.assertEqual(origins(script, "ab"), [(1, (0,)), (1, (0, 3)), (2, (0,)), (2, (0, 2, 3))])

    def test_told_lines(self):
        script = Script(Print(), Later("x"), Tell("y"), Drop())
        self.assertEqual(origins(script, "ab"), [(1, ()), (0, (2,)), (0, (1,)), (2, ()), (0, (2,)), (0, (1,))])

    def test_kinds(self):
        for entry in origins(Script(Change(Front("x")), Tell("y")), "ab"):
            self.assertEqual([type(entry), type(entry[0]), type(entry[1])], [tuple, int, tuple])
        self.assertEqual([type(run(Script(), "a")), type(counts(Script(), "a")), type(origins(Script(), "a"))],
                         [list, tuple, list])


class TraceTest(unittest.TestCase):
    def test_rounds(self):
        script = Script(Keep(), Read(at=Number(1)), Tell("x"), Slide(at=Not(Last())), window=2, store=2)
        self.assertEqual(list(trace(script, "abc")), [
            {"done": (0, 1, 2, 3), "printed": ("x",), "store": ("a",), "window": ("b",)},
            {"done": (0, 2), "printed": ("x", "b", "c"), "store": ("a", "c"), "window": ()}])

    def test_it_is_a_generator_with_new_dicts(self):
        found = trace(Script(Later("y")), ["a", "b"])
        self.assertIsInstance(found, types.GeneratorType)
        first = next(found)
        self.assertEqual(list(first), ["done", "printed", "store", "window"])
        self.assertEqual({type(value) for value in first.values()}, {tuple})
        first["done"] = None
        self.assertEqual(next(found), {"done": (0,), "printed": ("b", "y"), "store": (), "window": ()})
        self.assertEqual(list(found), [])

    def test_invalid_text_when_the_iteration_begins(self):
        found = trace(Script(), ["a", "%"])
        with self.assertRaises(InvalidText) as caught:
            next(found)
        self.assertEqual(caught.exception.value, ["a", "%"])

    def test_by_name(self):
        self.assertEqual(list(running.trace(text=["a"], script=Script())), list(trace(Script(), ("a",))))


CALLS = (running.run, running.origins, running.counts, lambda script, text: list(running.trace(script, text)))


class TextTest(unittest.TestCase):
    def test_values_of_any_kind(self):
        values = [*any_values(), *some_tests(), *some_changes(), *some_addresses(), *some_commands(), "a", "", "ab"]
        values += [["a", None], ("a", 1), ["a", "b\n"], [["a"]], {"a": "b"}, [True]]
        for value in values:
            if isinstance(value, (list, tuple)) and all(isinstance(each, str) and "%" not in each for each in value):
                continue
            for call in CALLS:
                for script in (Script(), Script(Leave())):
                    before = copy.deepcopy(value)
                    with self.assertRaises(InvalidText) as caught:
                        call(script, value)
                    self.assertIs(caught.exception.value, value)
                    self.assertTrue(before == value or type(value).__eq__ is object.__eq__)

    def test_tuples_and_lists(self):
        script = Script(Change(Front("x")), Tell("y", at=Last()))
        text = ["a", "b"]
        for call in CALLS:
            self.assertEqual(call(script, text), call(script, ("a", "b")))
        self.assertEqual(running.run(text=text, script=script), ["xa", "y", "xb"])
        self.assertEqual(running.origins(text=text, script=script), [(1, (0,)), (0, (1,)), (2, (0,))])
        self.assertEqual(running.counts(text=text, script=script), (2, 1))
        self.assertEqual(text, ["a", "b"])


class BesideTest(unittest.TestCase):
    """Many scripts and texts, beside the runs of tests/plainly.py."""

    def test_runs(self):
        for seed in range(1500):
            chance = Chance(seed)
            script = chance.script(12)
            for text in (chance.text(), chance.text(4)):
                plain = Plain(script, text)
                with self.subTest(seed=seed, text=text):
                    self.assertEqual(run(script, text), plain.run())
                    self.assertEqual(origins(script, text), plain.origins())
                    self.assertEqual(counts(script, tuple(text)), tuple(plain.counts))
                    self.assertEqual(list(trace(script, text)), plain.rounds)

    def test_origins_lead_to_the_printed_lines(self):
        for seed in range(600):
            chance = Chance(seed)
            script, text = chance.script(), chance.text()
            lines, places = run(script, text), origins(script, text)
            self.assertEqual(len(lines), len(places))
            for line, (number, changes) in zip(lines, places):
                if number:
                    made = text[number - 1]
                    for index in changes:
                        made = script.commands[index].change.done(made)
                    self.assertEqual(made, line)
                else:
                    self.assertIn(type(script.commands[changes[0]]), (Tell, Later))
                    self.assertEqual([script.commands[changes[0]].line, len(changes)], [line, 1])

    def test_traces_put_together(self):
        for seed in range(600):
            chance = Chance(seed)
            script, text = chance.script(), chance.text()
            rounds = list(trace(script, text))
            self.assertEqual([line for each in rounds for line in each["printed"]], run(script, text))
            done = [index for each in rounds for index in each["done"]]
            self.assertEqual(tuple(done.count(index) for index in range(len(script))), counts(script, text))

    def test_equal_calls(self):
        for seed in range(100):
            chance = Chance(seed)
            script, text = chance.script(), chance.text()
            self.assertEqual(run(script, text), run(Script(*script.commands, window=script.window, store=script.store,
                                                           is_quiet=script.is_quiet), list(text)))


class LongLinesTest(unittest.TestCase):
    def test_lines_that_grow(self):
        script = Script(Change(Every("a", "aaaaaaaa")), Change(Every("a", "aaaaaaaa")), Tell("x", at=If(Ends("aaaaaaaa"))))
        self.assertEqual([len(line) for line in run(script, ["a" * 100, ""])], [1, 6400, 0])


if __name__ == "__main__":
    unittest.main()
