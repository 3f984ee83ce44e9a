"""[82]: desks."""

import random
import unittest

from linestream.changes import First
from linestream.conditions import Has
from linestream.desks import Desk
from linestream.errors import (
    Beyond, InvalidAddress, InvalidChange, InvalidCommand, InvalidRoom, InvalidRow, InvalidSkip, InvalidTest, NoName,
    Nothing, TooMany)
from linestream.likeness import alike
from linestream.running import counts, run
from linestream.scripts import Any, Change, Drop, If, Keep, Kept, Last, Not, Print, Put, Range, Script, Tell
from linestream.texts import read_script, write_script
from tests.bounded import made
from tests.samples import LETTERS, any_values


def literal(line):
    return '"' + line.replace("\\", "\\\\").replace('"', '\\"') + '"'


def script_row(name, script):
    return " ; ".join([f"script {name} " + write_script(script)[0], *write_script(script)[1:]])


def text_row(name, text):
    return " ".join([f"text {name}", *[literal(line) for line in text]])


class KeepingTest(unittest.TestCase):
    def test_scripts(self):
        desk = Desk()
        self.assertEqual([desk.scripts, desk.texts], [{}, {}])
        for row, name, script in (
                ("script a window 1 store 0", "a", Script()), ("script b window 3 store 2 quiet", "b", Script(window=3, store=2, is_quiet=True)),
                ("script c window 1 store 1 ; keep ; put at last", "c", Script(Keep(), Put(at=Last()), store=1)),
                ('script d window 1 store 0 quiet ; tell "; \\" \\\\ ;" at if has " ; " ; print', "d",
                 Script(Tell('; " \\ ;', at=If(Has(" ; "))), Print(), is_quiet=True)),
                ("script abcdefgh window 1 store 0 ; print at kept ; drop", "abcdefgh", Script(Print(at=Kept()), Drop())),
                ('script e window 1 store 0 ; print at range kept kept ; drop at not range kept has "a" any ; print at kept has ";"', "e",
                 Script(Print(at=Range(Kept(), Kept())), Drop(at=Not(Range(Kept(Has("a")), Any()))), Print(at=Kept(Has(";"))))),
                ("script script window 1 store 0", "script", Script()), ("script window window 2 store 0", "window", Script(window=2))):
            self.assertEqual(desk.say(row=row), "ok")
            self.assertEqual(desk.scripts[name], script)
        self.assertEqual(list(desk.scripts), sorted(desk.scripts))
        self.assertEqual(desk.texts, {})
        for _, script in made(range(2000, 2040)):
            desk.say(script_row("x", script))
            self.assertEqual(desk.scripts["x"], script)
            self.assertEqual(read_script(write_script(desk.scripts["x"])), script)

    def test_texts(self):
        desk = Desk()
        chance = random.Random(2)
        for name in ("t", "z", "abcdefgh", "text", "a"):
            text = ["".join(chance.choice(LETTERS + '"\\ ;' * 5) for _ in range(chance.randrange(9))) for _ in range(chance.randrange(6))]
            self.assertEqual(desk.say(text_row(name, text)), "ok")
            self.assertEqual(desk.texts[name], text)
        self.assertEqual([desk.say("text t"), desk.texts["t"], desk.say('text t ""'), desk.texts["t"]], ["ok", [], "ok", [""]])
        self.assertEqual(list(desk.texts), ["a", "abcdefgh", "t", "text", "z"])
        self.assertEqual(desk.scripts, {})

    def test_what_is_told_is_new(self):
        desk = Desk()
        desk.say('text t "a"')
        desk.say("script s window 1 store 0")
        desk.texts["t"].append("b")
        desk.texts["u"] = []
        desk.scripts["u"] = Script()
        self.assertEqual([desk.texts, list(desk.scripts)], [{"t": ["a"]}, ["s"]])
        self.assertIsNot(desk.texts, desk.texts)

    def test_drop_and_undo(self):
        desk = Desk()
        for row in ("script a window 1 store 0", 'text a "x"', 'text a "y"', "drop text a", "script a window 2 store 0", "drop script a"):
            self.assertEqual(desk.say(row), "ok")
        self.assertEqual([desk.scripts, desk.texts], [{}, {}])
        self.assertEqual([desk.say("undo"), desk.scripts, desk.texts], ["ok", {"a": Script(window=2)}, {}])
        self.assertEqual([desk.say("undo"), desk.scripts, desk.texts], ["ok", {"a": Script()}, {}])
        self.assertEqual([desk.say("undo"), desk.texts], ["ok", {"a": ["y"]}])
        # An undo is not undone, a question and a row that is refused neither.
        self.assertEqual(desk.say("run a a"), '"y"')
        for row in ("run a b", "drop script b", "script b window 0 store 0", "x"):
            with self.assertRaises((NoName, InvalidRoom, InvalidRow)):
                desk.say(row)
        self.assertEqual([desk.say("undo"), desk.texts], ["ok", {"a": ["x"]}])
        self.assertEqual([desk.say("undo"), desk.texts, desk.scripts], ["ok", {}, {"a": Script()}])
        self.assertEqual([desk.say("undo"), desk.texts, desk.scripts], ["ok", {}, {}])
        for _ in range(2):
            with self.assertRaises(Nothing):
                desk.say("undo")
        self.assertEqual([desk.say("text b"), desk.say("undo"), desk.texts], ["ok", "ok", {}])
        with self.assertRaises(Nothing):
            desk.say("undo")

    def test_undo_by_chance(self):
        chance = random.Random(4)
        desk = Desk()
        past = []
        for _ in range(600):
            told = (desk.scripts, desk.texts)
            name = chance.choice("abc")
            row = chance.choice([f"script {name} window {chance.randint(1, 3)} store 0", f'text {name} "{chance.choice("xyz")}"', f"drop script {name}",
                                 f"drop text {name}", "undo", "undo", f"run {name} {name}"])
            try:
                desk.say(row)
            except (NoName, Nothing):
                self.assertEqual((desk.scripts, desk.texts), told)
                self.assertTrue(row != "undo" or not past)
                continue
            if row == "undo":
                self.assertEqual((desk.scripts, desk.texts), past.pop())
            elif not row.startswith("run"):
                past.append(told)

    def test_desks_are_apart(self):
        one, other = Desk(), Desk()
        one.say("text a")
        self.assertEqual([one.texts, other.texts], [{"a": []}, {}])


class AnswersTest(unittest.TestCase):
    def test_beside_the_functions(self):
        desk = Desk()
        chance = random.Random(6)
        scripts = [script for _, script in made(range(2100, 2140))]
        for script, other in zip(scripts, scripts[1:] + scripts[:1]):
            text = [chance.choice(["a", "ab", "", 'b"\\', " ; "]) for _ in range(chance.randrange(5))]
            desk.say(script_row("s", script))
            desk.say(script_row("o", other))
            desk.say(text_row("t", text))
            printed = run(script, text)
            self.assertEqual(desk.say("run s t"), " ".join(literal(line) for line in printed) if printed else "-")
            self.assertEqual(desk.say("counts s t"), " ".join(str(many) for many in counts(script, text)) or "-")
            try:
                found = alike(script, other)
            except TooMany:
                with self.assertRaises(TooMany):
                    desk.say("alike s o")
                continue
            self.assertEqual(desk.say("alike s o"), "-" if found is None else " ".join(literal(line) for line in found))
            self.assertEqual(desk.say("alike s s"), "-")
            self.assertIs(type(desk.say("alike s o")), str)

    def test_known_ones(self):
        desk = Desk()
        desk.say("script s window 1 store 0")
        desk.say('script c window 1 store 0 ; change first "a" "b" ; print at last')
        desk.say('text s "a" "" "\\"\\\\"')
        desk.say("text e")
        self.assertEqual(desk.scripts["c"], Script(Change(First("a", "b")), Print(at=Last())))
        self.assertEqual([desk.say("run s s"), desk.say("run s e"), desk.say("counts s s"), desk.say("counts c s"), desk.say("counts c e")],
                         ['"a" "" "\\"\\\\"', "-", "-", "3 1", "0 0"])
        self.assertEqual([desk.say("run c s"), desk.say("alike c c")], ['"b" "" "\\"\\\\" "\\"\\\\"', "-"])

    def test_errors_of_alike(self):
        desk = Desk()
        desk.say("script s window 1 store 0")
        desk.say("script far window 1 store 0 ; print at number 4")
        desk.say("script room window 3 store 1")
        for row, bound in (("alike s far", "number"), ("alike far room", "number"), ("alike room far", "room")):
            with self.assertRaises(Beyond) as caught:
                desk.say(row)
            self.assertEqual(caught.exception.bound, bound)

    def test_names(self):
        desk = Desk()
        desk.say("script s window 1 store 0")
        desk.say("text t")
        for row, name in (("run s s", "s"), ("run t t", "t"), ("run a b", "a"), ("run s b", "b"), ("counts t s", "t"), ("counts s a", "a"),
                          ("alike s t", "t"), ("alike t s", "t"), ("alike x y", "x"), ("drop script t", "t"), ("drop text s", "s"), ("drop text x", "x")):
            with self.assertRaises(NoName) as caught:
                desk.say(row)
            self.assertEqual(caught.exception.name, name)


class RowsTest(unittest.TestCase):
    def refuse(self, desk, row, error=InvalidRow):
        told = (desk.scripts, desk.texts)
        with self.assertRaises(error) as caught:
            desk.say(row)
        if error is InvalidRow:
            self.assertIs(caught.exception.row, row)
        self.assertEqual((desk.scripts, desk.texts), told)
        return caught.exception

    def test_no_rows(self):
        desk = Desk()
        desk.say("script s window 1 store 0")
        desk.say('text t "a"')
        for row in ("", " ", "script", "script ", "script s", "script s ", "script s window", "script s window 1 store", "script s window 1 store 0 ", "script s window 1 store 0 quit",
                    "script s window 1 store 0 quiet quiet", "script  s window 1 store 0", "script s  window 1 store 0", "script S window 1 store 0", "script a1 window 1 store 0",
                    "script abcdefghi window 1 store 0", "script s window 1 store 0;", "script s window 1 store 0 ;", "script s window 1 store 0 ; ", "script s window 1 store 0 ; print ;",
                    "script s window 1 store 0 ;print", "script s window 1 store 0; print", "script s window 1 store 0 ;  print", "script s window 1 store 0  ; print",
                    "script s window 1 store 0 ; print ; ", "script s window 1 store 0 ; print;drop", "script s window 1 store 0 ; prin", "script s window 1 store 0 print",
                    "script s window 1 store 0 ; ; print", "script s window 1 store 0 ; print at any", "script s window 01 store 0", 'script s window 1 store 0 ; tell "; print',
                    "script s window 1 store 0 ; print at kept ;", "script s window 1 store 0 ; print at range kept ; drop", "script s window 1 store 0 ; skip 1 2",
                    "text", "text ", "text t ", 'text t a', 'text t "a', 'text t "a"b', 'text t  "a"', 'text t "a"  "b"', 'text t "a" ', 'text t"a"', 'text T "a"', 'text "a"', "text t-", "text t ;",
                    "drop", "drop s", "drop script", "drop script ", "drop script s ", "drop text t t", "drop texts t", "drop  text t", "drop script s t", "drop run s",
                    "undo ", " undo", "undo undo", "Undo", "undos", "und", "run", "run s", "run s ", "run s t ", "run s  t", "run s t t", "run S t", "run s T", "run  s t", "runs s t",
                    "counts", "counts s", "counts s t t", "count s t", "alike s", "alike s s s", "alike  s s", "alike s s ", "run abcdefghi t", "alike s abcdefghi", "print", "window 1 store 0"):
            self.refuse(desk, row)
        self.assertEqual(desk.say("undo"), "ok")
        for value in any_values():
            self.refuse(desk, value)
        for row in ("text t\t", 'text t "\t"', "undo\n", 'text t "%"', ["undo"], ("undo",), b"undo"):
            self.refuse(desk, row)

    def test_errors_of_constructors_come_ahead_of_names(self):
        desk = Desk()
        head = "script s window 1 store 0"
        for row, error, argument in (
                (head + " ; skip 0 ; print", InvalidCommand, "many"), (head + ' ; change front ""', InvalidChange, "word"), (head + " ; print at number 0", InvalidAddress, "number"),
                (head + ' ; print at if has ""', InvalidTest, "word"), (head + " ; skip 1", InvalidSkip, 0), ("script s window 0 store 0", InvalidRoom, 0),
                ("script s window 4 store 9 ; skip 2 ; print", InvalidSkip, 0), ("script s window 1 store 4 quiet", InvalidRoom, 4),
                (head + " ; print" * 13, TooMany, 12), (head + ' ; tell "x" at each 0 1 ; skip 0', InvalidAddress, "step")):
            found = self.refuse(desk, row, error)
            self.assertEqual(list(vars(found).values()), [argument])
        self.assertEqual(len(self.refuse(desk, "drop script s", NoName).name), 1)
        with self.assertRaises(Nothing):
            desk.say("undo")


if __name__ == "__main__":
    unittest.main()
