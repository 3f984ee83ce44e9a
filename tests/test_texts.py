"""[80], [81]: scripts and commands as they are written."""

import random
import unittest

from linestream.changes import Behind, Every, First, Front, Swap
from linestream.conditions import Begins, Both, Either, Ends, Fails, Has, Is, Only
from linestream.errors import (
    InvalidAddress, InvalidChange, InvalidCommand, InvalidLine, InvalidRoom, InvalidSkip, InvalidTest, InvalidText,
    TooMany, Unreadable)
from linestream.scripts import (
    Any, Change, Changed, Count, Drop, Each, Forget, ForgetFirst, If, Keep, Kept, Last, Later, Leave, Not, Number, Print,
    PrintFirst, Put, PutFirst, Range, Read, Script, Skip, Slide, Stop, Tell)
from linestream.texts import read_command, read_script, write_command, write_script
from tests.grammar import place_of
from tests.made import Chance
from tests.samples import LETTERS, any_values, some_addresses, some_changes, some_commands, some_tests

ROWS = [
    (Change(First("a", "")), 'change first "a" ""'), (Change(Every("ab", "c d")), 'change every "ab" "c d"'),
    (Change(Swap("ab", "ba")), 'change swap "ab" "ba"'), (Change(Front("a")), 'change front "a"'),
    (Change(Behind('"')), 'change behind "\\""'), (Print(), "print"), (PrintFirst(), "printfirst"), (Tell(""), 'tell ""'),
    (Tell('a"b\\c'), 'tell "a\\"b\\\\c"'), (Later(" at last"), 'later " at last"'), (Keep(), "keep"), (Put(), "put"),
    (PutFirst(), "putfirst"), (Forget(), "forget"), (ForgetFirst(), "forgetfirst"), (Read(), "read"), (Skip(12), "skip 12"),
    (Drop(), "drop"), (Slide(), "slide"), (Stop(), "stop"), (Leave(), "leave"),
    (Print(at=Not(Any())), "print at not any"), (Print(at=Number(10 ** 30)), "print at number 1" + "0" * 30),
    (Print(at=Each(2, 13)), "print at each 2 13"), (Print(at=Last()), "print at last"), (Print(at=Changed()), "print at changed"),
    (Print(at=Kept()), "print at kept"), (Print(at=Kept(Has("a"))), 'print at kept has "a"'), (Print(at=If(Is(""))), 'print at if is ""'),
    (Tell("x", at=If(Begins("\\"))), 'tell "x" at if begins "\\\\"'), (Skip(1, at=If(Ends("a"))), 'skip 1 at if ends "a"'),
    (Change(Front("a"), at=If(Only(""))), 'change front "a" at if only ""'),
    (Print(at=If(Both(Fails(Has("a")), Either(Is("b"), Only("c"))))), 'print at if both fails has "a" either is "b" only "c"'),
    (Print(at=Range(Any(), Any())), "print at range any any"), (Print(at=Range(Last(), Count(3))), "print at range last count 3"),
    (Print(at=Not(Range(Not(Kept()), Kept()))), "print at not range not kept kept"),
    (Print(at=Range(Kept(Has("a")), Changed())), 'print at range kept has "a" changed'),
    (Print(at=Range(Kept(), Each(1, 1))), "print at range kept each 1 1"), (Print(at=Range(Kept(), If(Is("a")))), 'print at range kept if is "a"'),
    (Print(at=Range(Kept(), Kept(Is("a")))), 'print at range kept kept is "a"'), (Print(at=Range(Kept(), Count(2))), "print at range kept count 2"),
]

COMMANDS = ["change", "print", "printfirst", "tell", "later", "keep", "put", "putfirst", "forget", "forgetfirst", "read",
            "skip", "drop", "slide", "stop", "leave"]


class WriteTest(unittest.TestCase):
    def test_examples_of_section_9(self):
        self.assertEqual(
            write_script(Script(Keep(at=If(Has("a"))), Put(at=Not(Range(Any(), Count(2)))), store=1)),
            ["window 1 store 1", 'keep at if has "a"', "put at not range any count 2"])
        with self.assertRaises(InvalidAddress) as caught:
            read_command('tell "x" at number 0')
        self.assertEqual(caught.exception.argument, "number")
        with self.assertRaises(Unreadable) as caught:
            read_script(["window 1 store 0", "print at lost"])
        self.assertEqual((caught.exception.index, caught.exception.place), (1, 10))
        with self.assertRaises(Unreadable) as caught:
            read_command("print at if " + "fails " * 8 + 'has "a"')
        self.assertEqual((caught.exception.index, caught.exception.place), (0, 54))

    def test_each_row(self):
        for command, line in ROWS:
            self.assertEqual(write_command(command), line)
            self.assertIs(type(write_command(command=command)), str)
            found = read_command(line)
            self.assertEqual(found, command)
            self.assertIs(type(found), type(command))
            self.assertEqual(read_command(line=line), command)

    def test_all_samples(self):
        commands = some_commands() + [Change(change) for change in some_changes()]
        commands += [Print(at=address) for address in some_addresses()] + [Tell("x", at=If(test)) for test in some_tests()]
        commands += [Drop(at=Kept(test)) for test in some_tests()] + [Tell(LETTERS), Later(LETTERS[::-1])]
        commands += [Keep(at=Range(one, other)) for one in some_addresses() for other in (Last(), Kept(Is(" ")), Not(Number(7)))
                     if not isinstance(one, Range) and not isinstance(getattr(one, "address", None), Range)]
        for command in commands:
            line = write_command(command)
            self.assertEqual(read_command(line), command)
            self.assertEqual(write_command(read_command(line)), line)

    def test_literals(self):
        chance = random.Random(5)
        for _ in range(300):
            line = "".join(chance.choice('ab"\\ ;~' + LETTERS) for _ in range(chance.randrange(12)))
            self.assertEqual(read_command(write_command(Tell(line))), Tell(line))
        self.assertEqual(write_command(Tell('\\"')), 'tell "\\\\\\""')
        self.assertEqual(read_command('tell "' + "a" * 5000 + '"'), Tell("a" * 5000))

    def test_scripts(self):
        for window in (1, 2, 3):
            for store in (0, 1, 2, 3):
                for is_quiet in (True, False):
                    script = Script(Print(), window=window, store=store, is_quiet=is_quiet)
                    text = [f"window {window} store {store}" + (" quiet" if is_quiet else ""), "print"]
                    self.assertEqual(write_script(script=script), text)
                    self.assertEqual(read_script(text=text), script)
                    self.assertEqual(read_script(tuple(text)), script)
        self.assertEqual(write_script(Script()), ["window 1 store 0"])
        self.assertIs(read_script(["window 1 store 0 quiet"]).is_quiet, True)
        chance = Chance(9)
        for _ in range(150):
            script = chance.script(12)
            text = write_script(script)
            self.assertIs(type(text), list)
            self.assertEqual(read_script(text), script)
            self.assertEqual(write_script(read_script(tuple(text))), text)

    def test_eight_within_one_another(self):
        test, address = Has("a"), Last()
        for _ in range(7):
            test, address = Fails(test), Not(address)
        for command in (Print(at=If(test)), Print(at=Kept(test)), Print(at=address), Print(at=Range(address.address, If(test)))):
            self.assertEqual(read_command(write_command(command)), command)

    def test_what_is_returned_is_new(self):
        script = Script(Print())
        text = write_script(script)
        text.append("x")
        self.assertEqual(write_script(script), ["window 1 store 0", "print"])


class UnreadableTest(unittest.TestCase):
    def place(self, line):
        with self.assertRaises(Unreadable) as caught:
            read_command(line)
        self.assertEqual(caught.exception.index, 0)
        return caught.exception.place

    def test_known_ones(self):
        for line, place in (
                ("", 0), (" ", 0), ("x", 0), ("prnt", 2), ("print ", 6), ("printx", 5), ("printf", 6), ("printfirs t", 9), ("print  at last", 6),
                ("print at", 8), ("print at ", 9), ("print at any", 9), ("print at anyx", 9), ("print at last ", 13), ("print at lasts", 13),
                ("print at lost", 10), ("print last", 6), (" print", 0), ("Print", 0), ("change", 6), ("change ", 7), ("change firs", 11), ("change first", 12),
                ('change first "a"', 16), ('change first "a" ', 17), ('change first "a" b', 17), ('change first "a""b"', 16), ('change first "a"  "b"', 17),
                ('change front "a" "b"', 17), ('change front "a" at', 19), ("change front a", 13), ("tell", 4), ("tell x", 5), ("tell 'x'", 5), ('tell "x', 7),
                ('tell "x\\', 8), ('tell "x\\n"', 8), ('tell "x\\"', 9), ('tell "x"y', 8), ('tell "x" y', 9), ('tell "x" at', 11), ("skip", 4), ("skip x", 5),
                ("skip 01", 6), ("skip 1x", 6), ("skip -1", 5), ("skip " + "1" * 32, 36), ("skip 1 at last", None), ("skip 1 2", 7), ("skip ", 5), ("skip 0x", 6),
                ("print at number", 15), ("print at number 1 ", 17), ("print at number x", 16), ("print at each 1", 15), ("print at each 1 ", 16),
                ("print at each 1 x", 16), ("print at each 1 1 1", 17), ("print at if", 11), ("print at if last", 12), ("print at if is", 14), ('print at if i "a"', 13),
                ('print at if is "a" is "b"', 18), ('print at if both is "a"', 23), ('print at if both is "a" ', 24), ('print at if both is "a" x', 24),
                ("print at kept ", 14), ("print at kept last", 14), ("print at kept e", 15), ("print at kept ea", 15), ("print at kept hat", 16), ("print at kepts", 13),
                ("print at range", 14), ("print at range any", 18), ("print at range any ", 19), ("print at range any cound", 23), ("print at range any count", 24),
                ("print at range any count 0", None), ("print at range count 1 any", 16), ("print at range any any any", 22), ("print at range kept e", 21),
                ("print at range kept ea", 22), ("print at range kept ei", 22), ("print at range kept ex", 21), ("print at range kept c", 21), ("print at range kept cx", 21),
                ("print at range kept has", 23), ('print at range kept has "a"', 27), ('print at range kept has "a" count', 33), ("print at range kept if", 22),
                ("print at range kept is", 22), ("print at not", 12), ("print at not ", 13), ("print at not not", 16), ("print at not a", 14), ("print at not x", 13),
                ("print at not range kept kept last", 29), ("print at not anyx", 16), ("keep1", 4), ("forgetfirst ", 12), ("forgets", 6)):
            if place is not None:
                self.assertEqual((line, self.place(line)), (line, place))
            else:
                try:
                    read_command(line)
                except InvalidAddress:
                    self.assertIn("count 0", line)

    def test_no_beginning_of_a_right_line_is_stuck(self):
        # What is stuck at its end can go on; the beginnings of right lines can.
        for command, line in ROWS:
            for at in range(len(line)):
                try:
                    read_command(line[:at])
                except Unreadable as error:
                    self.assertEqual((error.index, error.place), (0, at))
                except (InvalidAddress, InvalidTest, InvalidChange, InvalidCommand):
                    self.assertLess(at, len(line))

    def test_each_letter_bent(self):
        chance = random.Random(3)
        for command, line in ROWS:
            for at in range(len(line) + 1):
                for bent in (line[:at] + line[at + 1:], line[:at] + chance.choice("azxZ~ \"\\09") + line[at:], line[:at] + chance.choice("az ~\"\\0") + line[at + 1:]):
                    try:
                        found = read_command(bent)
                    except Unreadable as error:
                        self.assertEqual(error.index, 0)
                        self.assertLessEqual(at - 1 if bent != line else 0, max(error.place, at - 1))
                        # Up to this place the line can go on, with the letter behind it not: so a line that ends there
                        # is stuck at its end, or right, or the errors of constructors come.
                        self.check_beginning(bent[:error.place])
                        if error.place < len(bent):
                            self.assertEqual(self.place(bent[:error.place + 1]), error.place)
                    except (InvalidAddress, InvalidTest, InvalidChange, InvalidCommand):
                        self.assertNotEqual(bent, line)
                    else:
                        self.assertEqual(read_command(write_command(found)), found)

    def told_place(self, line, is_head):
        """The place at which a line is stuck, None if it is of the form."""
        try:
            if is_head:
                read_script([line])
            else:
                read_command(line)
        except Unreadable as error:
            return error.place
        except (InvalidAddress, InvalidTest, InvalidChange, InvalidCommand, InvalidRoom):
            return None
        return None

    def test_beside_all_ways_to_read(self):
        chance = random.Random(8)
        words = ["print", "tell", "at", "not", "range", "kept", "if", "has", "fails", "both", "any", "last", "number", "each", "count", "is",
                 '"a"', '""', '"\\"', "1", "0", "23", "change", "first", "skip", "changed", "ends", "either", "window", "store", "quiet", ";", ""]
        lines = [line for _, line in ROWS] + ["window 1 store 0", "window 12 store 3 quiet"]
        for _ in range(1500):
            lines.append(" ".join([chance.choice(["print", "print at", "tell \"x\" at", "skip 1 at not"])] + [chance.choice(words) for _ in range(chance.randrange(1, 6))]))
        for line in list(lines):
            at = chance.randrange(len(line) + 1)
            lines += [line[:at] + chance.choice('aceknr "\\019~') + line[at:], line[:at] + line[at + 1:], line[:at], line + chance.choice([" ", "x", " kept", " at last"])]
        stuck = 0
        for line in lines:
            for is_head in (True, False):
                place = self.told_place(line, is_head)
                self.assertEqual((line, place), (line, place_of(line, is_head)))
                stuck += place is not None
        self.assertGreater(stuck, 3000)

    def check_beginning(self, line):
        try:
            read_command(line)
        except Unreadable as error:
            self.assertEqual(error.place, len(line))
        except (InvalidAddress, InvalidTest, InvalidChange, InvalidCommand):
            self.assertTrue(line)

    def test_too_deep(self):
        for word, end, inner in (("fails", 'has "a"', "print at if "), ("fails", 'has "a"', "print at kept "), ("not", "last", "print at ")):
            for many in range(10):
                line = inner + f"{word} " * many + end
                if many <= 7:
                    self.assertEqual(write_command(read_command(line)), line)
                else:
                    # The n of not could be that of number.
                    self.assertEqual(self.place(line), len(inner) + 7 * (len(word) + 1) + (word == "not"))
        self.assertEqual(self.place("print at " + "not " * 7 + "range any any"), 37)
        self.assertEqual(self.place("print at range " + "not " * 7 + "last any"), 15 + 24 + 1)
        self.assertEqual(self.place("print at range last " + "not " * 7 + "last"), 20 + 24 + 1)
        self.assertEqual(self.place('print at if both has "a" ' + "fails " * 7 + 'has "a"'), 25 + 36)
        self.assertEqual(read_command("print at range " + "not " * 6 + "last " + "not " * 6 + "any").at.stop.address.address.address.address.address.address, Any())

    def test_scripts(self):
        for text, expected in (
                ([], (0, 0)), ((), (0, 0)), ([""], (0, 0)), (["print"], (0, 0)), (["window"], (0, 6)), (["window 1"], (0, 8)), (["window 1 store"], (0, 14)),
                (["window 1 store 0 "], (0, 17)), (["window 1 store 0 quit"], (0, 20)), (["window 1 store 0 quiet "], (0, 22)), (["window 1 store 0 quiet quiet"], (0, 22)),
                (["window x store 0"], (0, 7)), (["window 1 stare 0"], (0, 11)), (["window 01 store 0"], (0, 8)), (["window 1 store 0", ""], (1, 0)),
                (["window 1 store 0", "print", "window 1 store 0"], (2, 0)), (["window 1 store 0", "print", "prit", "x"], (2, 3)), (["x", "prit"], (0, 0)),
                (["window 1 store 0", "skip 0", "skip x"], (2, 5)), (["window 9 store 0", "x"], (1, 0)), (["window 1 store 0", *["print"] * 13, "print at"], (14, 8)),
                (["window " + "1" * 32 + " store 0"], (0, 38)), (["window 1 store 0;"], (0, 16)), (["window 1 store 0", "print ;"], (1, 6))):
            with self.assertRaises(Unreadable) as caught:
                read_script(text)
            self.assertEqual((text, (caught.exception.index, caught.exception.place)), (text, expected))


class ErrorsTest(unittest.TestCase):
    def refuse(self, error, argument, ask, value):
        with self.assertRaises(error) as caught:
            ask(value)
        self.assertEqual(list(vars(caught.exception).values()), [argument])

    def test_no_lines_and_no_texts(self):
        for value in any_values():
            if not isinstance(value, str) or not all(letter in LETTERS for letter in value):
                with self.assertRaises(InvalidLine) as caught:
                    read_command(value)
                self.assertIs(caught.exception.value, value)
            if value not in ([], (), ["a"], ("a",), ("a", "b")):
                with self.assertRaises(InvalidText) as caught:
                    read_script(value)
                self.assertIs(caught.exception.value, value)
        # Ahead of the form.
        self.refuse(InvalidText, ["x", "tell \n"], read_script, ["x", "tell \n"])
        self.refuse(InvalidText, ["window 1 store 0", 1], read_script, ["window 1 store 0", 1])
        self.refuse(InvalidLine, "x\t", read_command, "x\t")

    def test_errors_of_constructors(self):
        for line, error, argument in (
                ('tell "x" at number 0', InvalidAddress, "number"), ("print at each 0 0", InvalidAddress, "step"), ("print at each 1 0", InvalidAddress, "start"),
                ("skip 0", InvalidCommand, "many"), ("skip 0 at number 0", InvalidAddress, "number"), ('print at if has ""', InvalidTest, "word"),
                ('print at if has "abcdefghi"', InvalidTest, "word"), ('print at if is "' + "a" * 21 + '"', InvalidTest, "line"), ('print at if only "aa"', InvalidTest, "letters"),
                ('change first "" "abcdefghi"', InvalidChange, "old"), ('change first "a" "abcdefghi"', InvalidChange, "new"), ('change swap "aa" "b"', InvalidChange, "letters"),
                ('change swap "ab" "b"', InvalidChange, "others"), ('change front ""', InvalidChange, "word"), ('change front "" at number 0', InvalidChange, "word"),
                ("print at range number 0 count 0", InvalidAddress, "number"), ("print at range any count 0", InvalidAddress, "number"),
                ("print at range range any any any", InvalidAddress, "start"), ("print at range any not range any any", InvalidAddress, "stop"),
                ("print at range range any count 0 each 0 1", InvalidAddress, "number"), ("print at range range any any each 0 1", InvalidAddress, "step"),
                ('print at if both has "" begins ""', InvalidTest, "word"), ('print at range if has "" number 0', InvalidTest, "word"),
                ('print at range number 0 if has ""', InvalidAddress, "number"), ('print at kept only "aa"', InvalidTest, "letters"),
                ('print at if ' + "both " * 7 + 'has "a" ' * 7 + 'both has "a" has "a"', InvalidTest, "other")):
            self.refuse(error, argument, read_command, line)
            self.refuse(error, argument, read_script, ["window 1 store 9", "print", line, "skip 0"])

    def test_eight_simple_tests_and_nine(self):
        line = 'print at if both both both has "a" has "a" both has "a" has "a" both both has "a" has "a" both has "a" has "a"'
        self.assertEqual(write_command(read_command(line)), line)
        self.refuse(InvalidTest, "other", read_command, line[:-len('has "a"')] + 'both has "a" has "a"')

    def test_errors_of_scripts(self):
        head = "window 1 store 0"
        self.refuse(TooMany, 12, read_script, [head, *["print"] * 13])
        self.refuse(TooMany, 12, read_script, ["window 0 store 9", "skip 99", *["print"] * 12])
        self.refuse(InvalidSkip, 1, read_script, ["window 0 store 9", "print", "skip 1"])
        self.refuse(InvalidSkip, 0, read_script, [head, "skip 1"])
        self.refuse(InvalidRoom, 0, read_script, ["window 0 store 4", "print"])
        self.refuse(InvalidRoom, 4, read_script, ["window 3 store 4", "print"])
        self.refuse(InvalidRoom, 10 ** 30, read_script, ["window 1" + "0" * 30 + " store 4"])
        self.refuse(InvalidCommand, "many", read_script, ["window 0 store 0", "skip 0", "print at number 0"])
        self.refuse(InvalidAddress, "number", read_script, [head, "print at number 0", 'change front ""'])


if __name__ == "__main__":
    unittest.main()
