"""[50] to [53]: what can happen."""

import unittest

from linestream.changes import Behind, Every, First, Front, Swap
from linestream.conditions import Begins, Both, Either, Ends, Fails, Has, Is, Only
from linestream.errors import Beyond, OutOfRange
from linestream.happen import (
    all_printed, bare, most_kept, most_printed, passed, reached, silent, steady, unused)
from linestream.running import counts, run, trace
from linestream.scripts import (
    Any, Change, Changed, Count, Drop, Each, Forget, ForgetFirst, If, Keep, Kept, Last, Later, Leave, Not, Number, Print,
    PrintFirst, Put, PutFirst, Range, Read, Script, Skip, Slide, Stop, Tell)
from tests.bounded import few_lines, first_lines, made, texts_of
from tests.plainly import Plain
from tests.samples import any_values

ADDRESSES = [
    Any(), Number(1), Number(3), Each(2, 1), Each(3, 2), Last(), If(Has("a")), If(Is("")), If(Only("ab")), Changed(),
    Kept(), Kept(Begins("b")), Not(Any()), Not(Last()), Not(Number(2)), Not(If(Has("a"))), Not(Kept(Is("ab"))),
    Range(Number(2), Count(2)), Range(If(Has("a")), If(Has("b"))), Range(Any(), Number(2)), Not(Range(Last(), Any())),
    Range(Each(3, 1), Count(3)), Range(Kept(), Changed()), Range(If(Is("b")), Last()), Range(Number(3), Number(1)),
]
PLAIN = [Print, PrintFirst, Keep, Put, PutFirst, Forget, ForgetFirst, Read, Drop, Slide, Stop, Leave]


def small_scripts():
    """Each address at each command, among others, in rooms of each kind."""
    rooms = [(1, 0), (1, 1), (1, 2), (2, 0), (2, 1), (3, 0)]
    found = []
    for number, at in enumerate(ADDRESSES):
        for place, kind in enumerate(PLAIN):
            window, store = rooms[(number + place) % len(rooms)]
            first = [Keep(), Change(First("a", "b")), Later("x"), Slide(at=Not(Number(1)))][(number * 5 + place) % 4]
            found.append(Script(first, kind(at=at), Put(), window=window, store=store, is_quiet=place % 2 == 0))
        found.append(Script(Keep(), Skip(1, at=at), Drop(), Tell("x"), window=2, store=1))
        found.append(Script(Change(Every("b", "a"), at=at), Later("a", at=Changed()), Keep(at=If(Has("a"))), store=1))
    return found


class Seen:
    """What all texts of few lines show: for each thing the number of lines of the shortest text."""

    def __init__(self, script, most=5):
        self.events, self.most = {}, 0
        self.printed = self.printed_most = self.kept_most = None
        for text in texts_of(first_lines(script), most, 300):
            plain = Plain(script, text)
            self.most = len(text)
            for event in plain.events:
                self.events.setdefault(event, len(text))
            if plain.printed and self.printed is None:
                self.printed = len(text)
            self.printed_most = self.more(self.printed_most, max([len(row["printed"]) for row in plain.rounds], default=0), text)
            self.kept_most = self.more(self.kept_most, plain.kept_most, text)

    def more(self, best, many, text):
        return (many, len(text)) if best is None or many > best[0] else best


class ExamplesTest(unittest.TestCase):
    def test_examples_of_section_6(self):
        script = Script(Change(First("a", "b"), at=Number(1)), Keep(at=If(Has("b"))), Put(at=Last()), Drop(), store=1)
        self.assertEqual(
            [len(reached(script, 1)), len(reached(script, 2)), passed(script, 3), len(passed(script, 0)), steady(script)],
            [1, 1, None, 2, (3,)])
        self.assertEqual(
            [most_printed(script)[0], most_kept(script)[0], all_printed(script, Has("b"))], [1, 1, None])
        other = Script(Skip(1), Print(), Tell("x"))
        self.assertEqual([unused(other), bare(other) == Script(Tell("x"))], [(1,), True])

    def test_by_name(self):
        script = Script(Print())
        self.assertEqual([reached(script=script, index=0), passed(index=0, script=script)], [[""], None])
        self.assertEqual([unused(script=script), steady(script=script), bare(script=script)], [(), (0,), script])
        self.assertEqual([len(silent(script=script)), most_printed(script=script)[0], most_kept(script=script)],
                         [1, 2, (0, [])])
        self.assertEqual(all_printed(script=script, test=Either(Has("a"), Fails(Has("a")))), None)


class EventsTest(unittest.TestCase):
    def check(self, script):
        seen = Seen(script)
        for index in range(len(script)):
            for tell, is_done in ((reached, True), (passed, False)):
                text = tell(script, index)
                if text is None:
                    self.assertNotIn((index, is_done), seen.events)
                    continue
                self.assertIs(type(text), list)
                self.assertIn((index, is_done), Plain(script, text).events)
                if len(text) <= seen.most or (index, is_done) in seen.events:
                    self.assertEqual(seen.events[(index, is_done)], len(text))
            if reached(script, index) is not None:
                self.assertGreater(counts(script, reached(script, index))[index], 0)
        never_done = tuple(at for at in range(len(script)) if reached(script, at) is None)
        self.assertEqual(unused(script), never_done)
        self.assertEqual(steady(script), tuple(
            at for at in range(len(script)) if at not in never_done and passed(script, at) is None))

    def test_each_address_at_each_command(self):
        for script in small_scripts():
            self.check(script)

    def test_made_scripts(self):
        for _, script in made(range(60)):
            self.check(script)

    def test_what_comes_late(self):
        far = Script(Skip(1, at=Not(Number(3))), Tell("a"), Stop(at=Number(2)))
        self.assertEqual([reached(far, 1), reached(far, 2), passed(far, 1)], [None, ["", ""], None])
        counted = Script(Tell("a", at=Not(Range(Number(2), Count(3)))), Drop(at=Each(3, 3)))
        self.assertEqual([len(passed(counted, 0)), len(reached(counted, 1)), len(passed(counted, 1))], [2, 3, 1])
        # As one that is not the last, or later on as the last one.
        either = Script(Skip(1, at=Not(Last())), Drop(at=Not(Number(3))), Drop(at=Each(2, 2)), Tell("a"))
        self.assertEqual([len(reached(either, 3)), len(silent(either)), len(passed(either, 1))], [2, 2, 3])
        # One way needs a line behind what is done there, another one of as many lines does not.
        ways = Script(Skip(1, at=Kept()), Drop(at=Last()), Skip(1, at=Last()), Drop(at=Kept()), Tell("x", at=Number(2)),
                      Keep(at=If(Has("a"))), store=1, is_quiet=True)
        more = Script(Skip(1, at=Not(Number(1))), Keep(at=If(Has("a"))), Skip(1, at=Not(Kept())), Drop(at=Last()), Skip(1, at=Last()),
                      Drop(at=Not(Kept())), Tell("x", at=Number(2)), store=1, is_quiet=True)
        for script, index in ((ways, 4), (more, 6)):
            for text in (reached(script, index), silent(script), most_printed(script)[1], all_printed(script, Has("a"))):
                self.assertEqual([len(text), run(script, text)], [2, ["x"]])
        kept = Script(Keep(at=If(Is("ab"))), Tell("a", at=Kept(Is("ab"))), Forget(at=Kept()), store=1)
        self.assertEqual([reached(kept, 1), unused(Script(Tell("a", at=Kept(Is("a"))), Keep(), Forget(), store=1))],
                         [["ab"], (0,)])

    def test_indexes(self):
        script = Script(Print(), Keep())
        for tell in (reached, passed):
            for value in [*any_values(), 2, -1, 10 ** 30, True, False, None, "0", [0], (0,)]:
                if value not in (0, 1) or isinstance(value, bool):
                    with self.assertRaises(OutOfRange) as caught:
                        tell(script, value)
                    self.assertIs(caught.exception.value, value)
            with self.assertRaises(OutOfRange):
                tell(Script(), 0)


class MostTest(unittest.TestCase):
    def check(self, script):
        seen = Seen(script)
        text = silent(script)
        if text is None:
            self.assertIsNone(seen.printed)
        else:
            self.assertTrue(run(script, text))
            self.assertTrue(len(text) > seen.most or seen.printed == len(text))
        self.check_most(script, most_printed(script), seen.printed_most, seen.most,
                        max([len(row["printed"]) for row in trace(script, most_printed(script)[1])], default=0))
        self.check_most(script, most_kept(script), seen.kept_most, seen.most,
                        Plain(script, most_kept(script)[1]).kept_most)

    def check_most(self, script, told, shown, most, own):
        many, text = told
        self.assertEqual([type(told), type(many), type(text)], [tuple, int, list])
        self.assertEqual(own, many)
        self.assertGreaterEqual(many, shown[0])
        if many == 0:
            self.assertEqual(text, [])
        if many == shown[0]:
            self.assertEqual(len(text), shown[1])
        else:
            self.assertGreater(len(text), most)

    def test_each_address_at_each_command(self):
        for script in small_scripts():
            self.check(script)

    def test_made_scripts(self):
        for _, script in made(range(100, 170)):
            self.check(script)

    def test_nothing(self):
        for script in (Script(Drop()), Script(is_quiet=True), Script(Leave()), Script(Later("a"), Leave()),
                       Script(Put(), PutFirst(), is_quiet=True), Script(Tell("a", at=Not(Any())), Drop())):
            self.assertEqual([silent(script), most_printed(script)], [None, (0, [])])
        for script in (Script(), Script(Keep(), store=0), Script(Keep(at=Not(Any())), store=2), Script(store=1)):
            self.assertEqual(most_kept(script), (0, []))

    def test_known_ones(self):
        self.assertEqual([len(silent(Script(Drop(at=Not(Number(3)))))), silent(Script(Later(""), is_quiet=True))], [3, [""]])
        self.assertEqual(most_printed(Script(Print(), Print(), Tell("a"), Later("b"))), (5, [""]))
        many, text = most_printed(Script(Read(), Read(), Print(), window=3))
        self.assertEqual([many, len(text)], [6, 3])
        many, text = most_printed(Script(Keep(), Put(at=Each(3, 3)), Drop(), store=2))
        self.assertEqual([many, len(text)], [2, 3])
        self.assertEqual([most_kept(Script(Keep(), Forget(), store=1)), most_kept(Script(Keep(), Keep(), store=2))[0]],
                         [(1, [""]), 2])
        many, text = most_kept(Script(Keep(), Drop(at=Not(Last())), store=2))
        self.assertEqual([many, len(text)], [2, 2])


class AllPrintedTest(unittest.TestCase):
    def check(self, script, test):
        text = all_printed(script, test)
        bad = [each for each in texts_of(few_lines(3, script), 4, 500)
               if not all(test.holds(line) for line in run(script, each))]
        if text is None:
            self.assertEqual(bad, [])
        else:
            self.assertFalse(all(test.holds(line) for line in run(script, text)))
            self.assertTrue(not bad or len(text) <= len(bad[0]))
            # Another line of the same class may do it, so the shortest one is looked for among lines near to it, too.
            lines = first_lines(script) + text
            if len(text) > 1:
                for each in texts_of(list(dict.fromkeys(lines)), len(text) - 1, 400):
                    self.assertTrue(all(test.holds(line) for line in run(script, each)))

    def test_made_scripts(self):
        tests = [Has("a"), Fails(Has("a")), Is(""), Only(""), Only("ab"), Fails(Is("b")), Begins("a"), Fails(Ends("ab"))]
        for seed, script in made(range(200, 300), tests=2):
            self.check(script, tests[seed % len(tests)])

    def test_told_changed_and_kept_lines(self):
        for script, test, expected in (
                (Script(Tell("a"), is_quiet=True), Has("a"), None), (Script(Tell("a"), is_quiet=True), Has("b"), 1),
                (Script(Later("b"), Leave(at=Last()), is_quiet=True), Has("a"), 2),
                (Script(Later("b"), Leave(), is_quiet=True), Has("a"), None),
                (Script(Change(Every("a", ""))), Fails(Has("a")), None), (Script(Change(First("a", ""))), Fails(Has("a")), 1),
                (Script(Change(First("a", ""))), Fails(Has("aa")), 1), (Script(Drop(at=Not(If(Is("ab"))))), Is("ab"), None),
                (Script(Drop(at=Not(If(Is("ab"))))), Is("a"), 1), (Script(Change(Every("a", "")), Drop(at=Not(If(Only(""))))), Only(""), None),
                (Script(Change(Every("a", ""), at=If(Only("a"))), Drop(at=Not(Changed()))), Only(""), None),
                (Script(Change(Every("a", ""), at=If(Only("ab"))), Drop(at=Not(Changed()))), Only(""), 1),
                (Script(Keep(at=If(Has("a"))), Put(at=Each(2, 2)), Forget(at=Each(2, 2)), Drop(), store=1), Has("a"), None),
                (Script(Keep(at=If(Has("a"))), Put(at=Each(2, 2)), Drop(), store=1), Is("a"), 2),
                (Script(Change(Swap("a", "b"), at=Number(2)), Print(at=Number(2)), is_quiet=True), Fails(Has("a")), None),
                (Script(Change(Front("b")), Change(Behind("b"))), Both(Begins("b"), Ends("b")), None),
                (Script(), Either(Has("a"), Fails(Has("a"))), None), (Script(), Fails(Is("zz")), 1),
                (Script(Read(), PrintFirst(), Drop(at=Any()), window=2), Only(""), 1),
                (Script(Keep(at=If(Has("a"))), Drop(at=Not(Kept())), store=1), Fails(Is("b")), 2),
                (Script(Keep(at=If(Has("a"))), Drop(at=Not(Kept())), Later("", at=Number(1)), store=1), Fails(Is("bb")), 2),
                (Script(Read(), PrintFirst(), window=2, is_quiet=True), Only(""), 2)):
            text = all_printed(script, test)
            self.assertEqual(None if text is None else len(text), expected)
            self.check(script, test)

    def test_bounds_and_classes(self):
        # The classes are those of the script alone, so the test may part lines as it likes.
        two = Script(Print(at=If(Has("a"))), Print(at=If(Has("b"))))
        self.assertEqual(len(all_printed(two, Fails(Is("cc")))), 1)
        self.assertIsNone(all_printed(Script(), Either(Has("c"), Fails(Has("c")))))
        for script, test, bound in (
                (two, Both(Has("c"), Has("d")), "tests"), (Script(), Has("abc"), "words"), (two, Is("abc"), "words"),
                (Script(), Only("abcd"), "words"), (Script(Print(at=Number(4))), Has("abc"), "words"),
                (Script(Print(at=If(Has("abc")))), Both(Both(Has("a"), Has("b")), Has("c")), "tests")):
            with self.assertRaises(Beyond) as caught:
                all_printed(script, test)
            self.assertEqual(caught.exception.bound, bound)


class BareTest(unittest.TestCase):
    def check(self, script):
        found = bare(script)
        self.assertEqual((found.window, found.store, found.is_quiet), (script.window, script.store, script.is_quiet))
        self.assertEqual(unused(found), ())
        self.assertEqual(bare(found), found)
        for index in steady(found):
            self.assertEqual(found.commands[index].at, Any())
        for text in texts_of(few_lines(2, script), 4, 150):
            self.assertEqual(run(found, text), run(script, text))

    def test_many(self):
        for script in small_scripts():
            self.check(script)
        for _, script in made(range(300, 380)):
            self.check(script)

    def test_skips(self):
        no = Not(Any())
        for script, expected in (
                (Script(), Script()), (Script(Print(at=no)), Script()),
                (Script(Skip(2), Print(), Print(), Keep()), Script(Keep())),
                (Script(Skip(2, at=Last()), Print(at=no), Keep(), Drop()), Script(Skip(1, at=Last()), Keep(), Drop())),
                (Script(Skip(1, at=Last()), Print(at=no), Keep()), Script(Keep())),
                (Script(Skip(2, at=Last()), Skip(1, at=If(Has("a"))), Print(at=no), Drop()), Script(Drop())),
                (Script(Skip(2, at=Last()), Skip(1, at=If(Has("a"))), Print(at=no), Drop(at=Number(1)), Put()),
                 Script(Drop(at=Number(1)), Put())),
                (Script(Skip(3, at=Last()), Skip(1, at=If(Has("a"))), Print(at=no), Drop(at=Number(1)), Put()),
                 Script(Skip(1, at=Last()), Drop(at=Number(1)), Put())),
                (Script(Drop(), Print(), Tell("a"), Skip(1), Keep()), Script(Drop())),
                (Script(Skip(1, at=Number(1)), Skip(1), Print(), Keep()),
                 Script(Skip(1, at=Number(1)), Skip(1), Print(), Keep())),
                (Script(Print(at=Each(1, 1)), Tell("x", at=Not(no)), Later("y", at=Range(Any(), Number(2))),
                        Change(Front("a"), at=Not(Number(1))), Skip(1, at=Each(1, 1)), Put(at=Last())),
                 Script(Print(), Tell("x"), Later("y"), Change(Front("a"), at=Not(Number(1))))),
                (Script(Stop(at=Number(2)), Read(at=Number(3)), PutFirst(at=Not(Number(3))), window=2, store=1, is_quiet=True),
                 Script(Stop(at=Number(2)), PutFirst(), window=2, store=1, is_quiet=True))):
            self.assertEqual(bare(script), expected)
            self.check(script)

    def test_each_command_without_its_address(self):
        always = Each(1, 1)
        for kind in PLAIN[:-4]:
            self.assertEqual(bare(Script(kind(at=always))), Script(kind()))
        for kind in PLAIN[-4:]:
            self.assertEqual(bare(Script(kind(at=always), Print())), Script(kind()))
        for change in (First("a", "b"), Every("a", ""), Swap("a", "b"), Front("a"), Behind("b")):
            self.assertEqual(bare(Script(Change(change, at=always))), Script(Change(change)))
        self.assertEqual(bare(Script(Tell("a", at=always), Later("b", at=always))), Script(Tell("a"), Later("b")))


class NewTest(unittest.TestCase):
    def test_what_is_returned_is_new_and_equal_each_time(self):
        script = Script(Change(First("a", "b"), at=If(Has("a"))), Keep(), Put(at=Last()), store=1)
        for ask in (lambda: reached(script, 0), lambda: passed(script, 0), lambda: silent(script),
                    lambda: most_printed(script)[1], lambda: most_kept(script)[1], lambda: all_printed(script, Has("a"))):
            one = ask()
            other = ask()
            self.assertEqual(one, other)
            one.append("x")
            self.assertEqual(ask(), other)


if __name__ == "__main__":
    unittest.main()
