"""[23], [24]: classes of lines and the cases of scripts."""

import unittest
from itertools import combinations

from linestream.changes import Behind, Every, First, Front, Swap, done_all
from linestream.classes import cases_of, classes, holding
from linestream.conditions import Begins, Both, Either, Ends, Fails, Has, Is, Only
from linestream.errors import TooMany
from linestream.linesets import LineSet
from linestream.scripts import (
    Any, Change, Changed, Count, Each, If, Keep, Kept, Last, Not, Number, Print, Range, Read, Script, Skip, Tell)
from tests.samples import in_order, lines_of

LINES = in_order([*lines_of("ab", 6), *lines_of("ab ~", 4), "c", "ca", "dab"])

ROWS = [
    [], [([], Has("a"))], [([], Has("a")), ([First("a", "b")], Has("a"))], [([First("a", "b")], None)],
    [([Every("ab", "")], None), ([Every("ab", ""), First("b", "")], None)], [([Front("a")], None)], [([], None)],
    [([Swap("ab", "ba")], Begins("a")), ([], Begins("a"))], [([Swap("a", "b")], None), ([], Is(""))],
    [([First("a", ""), First("a", ""), First("a", "")], Has("a")), ([], Only("a"))],
    [([Every("aa", "b"), Behind("b")], Ends("bb")), ([Every("aa", "b")], None), ([], Fails(Ends("~")))],
    [([], Both(Has("ab"), Has("ba"))), ([], Either(Is("ab"), Is("ba"))), ([Every("b", "")], Is("aa"))],
    [([First("b", "a"), Every("aa", ""), Front("b"), Every("bb", "~")], Has("~")), ([First("b", "a")], None)],
    [([], Has("a"))] * 3, [([], Both(Is("a"), Is("b")))], [([First("b", ""), First("aa", "")], None)],
]


def case_holds(case, line):
    """[23]."""
    changes, test = case
    if test is not None:
        return test.holds(done_all(changes, line))
    return any(change.has_place(done_all(changes[:at], line)) for at, change in enumerate(changes))


def cases_told(commands, pairs):
    """Cases: for each tuple (indexes of Change commands, test) the ones of all choices."""
    found = []
    for indexes, test, least in pairs:
        for many in range(least, len(indexes) + 1):
            for choice in combinations(indexes, many):
                case = ([commands[index].change for index in choice], test)
                if case not in found:
                    found.append(case)
    return found


class ClassesTest(unittest.TestCase):
    def test_example_of_section_3(self):
        self.assertEqual(
            [each.least for each in classes([([], Has("a")), ([First("a", "b")], Has("a"))])], ['', 'a', 'aa'])

    def check(self, cases):
        found = classes(cases)
        self.assertIs(type(found), list)
        self.assertEqual({type(each) for each in found}, {LineSet})
        self.assertEqual([each.least for each in found], in_order([each.least for each in found]))
        all_lines = LineSet()
        for lines in found:
            self.assertTrue(lines)
            self.assertFalse(lines & all_lines)
            all_lines = all_lines | lines
        self.assertEqual(all_lines, LineSet.every())
        return found

    def test_each_row(self):
        for cases in ROWS:
            found = self.check(cases)
            told = {}
            for line in LINES:
                told.setdefault(tuple([case_holds(case, line) for case in cases]), []).append(line)
            self.assertEqual(len(found), len(told))
            for answers, lines in told.items():
                own = [each for each in found if lines[0] in each]
                self.assertEqual(in_order([own[0].least, lines[0]])[0], own[0].least)
                self.assertTrue(len(lines[0]) > 4 or own[0].least == lines[0])
                self.assertEqual([line for line in LINES if line in own[0]], lines)
                self.assertEqual(holding(cases, own[0]), answers)

    def test_lists_and_tuples(self):
        for cases in ROWS:
            same = tuple([(tuple(changes), test) for changes, test in cases])
            self.assertEqual(classes(same), classes(cases))
            self.assertEqual(classes(cases=cases), classes(list(same)))
            for lines in (LineSet.every(), LineSet("a")):
                self.assertEqual(holding(same, lines), holding(lines=lines, cases=cases))

    def test_what_is_handed_in_stays(self):
        cases = [([First("a", "b")], Has("a")), ([Front("a")], None)]
        found = classes(cases)
        found.append(None)
        holding(cases, LineSet("a"))
        self.assertEqual(cases, [([First("a", "b")], Has("a")), ([Front("a")], None)])
        self.assertEqual(len(classes(cases)), len(found) - 1)

    def test_no_cases(self):
        self.assertEqual(classes([]), [LineSet.every()])
        self.assertEqual(classes(()), [LineSet.every()])

    def test_known_classes(self):
        has = LineSet.of(Has("a"))
        every = LineSet.every()
        for cases, expected in (
                ([([], Has("a"))], [every - has, has]), ([([], Begins("a")), ([], Has("a"))],
                                                        [every - has, LineSet.of(Begins("a")), has - LineSet.of(Begins("a"))]),
                ([([], None)], [every]), ([([Front("a")], None)], [every]), ([([First("a", "")], None)], [every - has, has]),
                ([([First("a", "b")], Is("b"))], [every - LineSet("a", "b"), LineSet("a", "b")]),
                ([([First("b", "a"), Every("a", "")], None)], [every - has - LineSet.of(Has("b")), has | LineSet.of(Has("b"))]),
                ([([], Is("x" * 20))], [every - LineSet("x" * 20), LineSet("x" * 20)])):
            self.assertEqual(classes(cases), expected)

    def test_exactly_32_and_33(self):
        for many in range(29, 36):
            cases = [([], Is("a" * at if at < 21 else "b" * (at - 20))) for at in range(many - 1)]
            if many <= 32:
                self.assertEqual(len(self.check(cases)), many)
            else:
                with self.assertRaises(TooMany) as caught:
                    classes(cases)
                self.assertEqual(caught.exception.limit, 32)

    def test_32_and_64_by_words(self):
        five = [([], Has(letter)) for letter in "abcde"]
        found = self.check(five)
        self.assertEqual([len(found), found[0].least, found[-1].least], [32, "", "abcde"])
        self.assertEqual(len(self.check(five + five)), 32)
        with self.assertRaises(TooMany) as caught:
            classes([*five, ([], Has("f"))])
        self.assertEqual(caught.exception.limit, 32)
        with self.assertRaises(TooMany):
            classes([([], Has(one + other)) for one in "abcdef" for other in "ghijkl"])


class HoldingTest(unittest.TestCase):
    def test_true_false_and_none(self):
        cases = [([], Has("a")), ([First("a", "b")], Has("a")), ([First("a", "b")], None), ([], None), ([Front("a")], None)]
        for lines, expected in (
                (LineSet(), (True, True, True, True, True)), (LineSet("a"), (True, False, True, False, True)),
                (LineSet("b"), (False, False, False, False, True)), (LineSet("aa"), (True, True, True, False, True)),
                (LineSet("a", "aa"), (True, None, True, False, True)), (LineSet("a", "b"), (None, False, None, False, True)),
                (LineSet.every(), (None, None, None, False, True)), (LineSet.of(Has("a")), (True, None, True, False, True)),
                (LineSet.of(Fails(Has("a"))), (False, False, False, False, True))):
            found = holding(cases, lines)
            self.assertEqual(found, expected)
            self.assertIs(type(found), tuple)

    def test_no_cases(self):
        self.assertEqual(holding([], LineSet("a")), ())
        self.assertEqual(holding((), LineSet()), ())

    def test_each_row(self):
        for cases in ROWS:
            for at in range(0, 90, 7):
                some = LINES[at:at + 1 + at % 4]
                expected = []
                for case in cases:
                    answers = {case_holds(case, line) for line in some}
                    expected.append(answers.pop() if len(answers) == 1 else None)
                self.assertEqual(holding(cases, LineSet(*some)), tuple(expected))
            self.assertEqual(holding(cases, LineSet()), (True,) * len(cases))


class CasesTest(unittest.TestCase):
    def check(self, commands, pairs):
        found = cases_of(Script(*commands))
        self.assertEqual(found, cases_told(commands, pairs))
        self.assertIs(type(found), list)
        for case in found:
            self.assertEqual([type(case), type(case[0])], [tuple, list])
        self.assertEqual(cases_of(script=Script(*commands)), found)

    def test_without_such_addresses(self):
        for commands in ([], [Print()], [Tell("a", at=Number(1)), Change(Front("a"), at=Last()), Keep(), Print(at=Each(1, 1))],
                         [Change(Front("a")), Print(at=Kept()), Keep(), Print(at=Not(Kept()))]):
            self.check(commands, [])

    def test_if(self):
        a, b = Has("a"), Begins("b")
        one, two = Change(First("a", "b")), Change(Front("b"))
        self.check([Print(at=If(a))], [((), a, 0)])
        self.check([one, Print(at=If(a))], [((0,), a, 0)])
        self.check([Print(at=If(a)), one], [((), a, 0)])
        self.check([one, two, Print(at=If(a)), Print(at=If(b))], [((0, 1), a, 0), ((0, 1), b, 0)])
        self.check([one, Print(at=If(b)), two, Print(at=If(a)), Print(at=If(b))], [((0,), b, 0), ((0, 2), a, 0), ((0, 2), b, 0)])
        self.check([Change(Front("a"), at=If(a)), Print(at=If(a))], [((), a, 0), ((0,), a, 0)])
        self.assertEqual(cases_of(Script(one, two, Print(at=If(a)))), [
            ([], a), ([First("a", "b")], a), ([Front("b")], a), ([First("a", "b"), Front("b")], a)])

    def test_changed(self):
        one, two = Change(First("a", "b")), Change(Front("b"))
        self.check([Print(at=Changed())], [])
        self.check([Print(at=Changed()), one], [])
        self.check([one, Print(at=Changed())], [((0,), None, 1)])
        self.check([one, two, Print(at=Changed())], [((0, 1), None, 1)])
        self.check([one, Print(at=Changed()), two, Print(at=Changed())], [((0,), None, 1), ((0, 2), None, 1)])
        self.assertEqual(cases_of(Script(one, two, Print(at=Changed()))), [
            ([First("a", "b")], None), ([Front("b")], None), ([First("a", "b"), Front("b")], None)])

    def test_kept(self):
        a = Has("a")
        one, two, three = Change(First("a", "b")), Change(Front("b")), Change(Swap("a", "b"))
        kept = Print(at=Kept(a))
        self.check([kept], [])
        self.check([one, kept, two], [])
        self.check([Keep(), kept], [((), a, 0)])
        self.check([kept, Keep()], [((), a, 0)])
        self.check([one, Keep(), kept], [((0,), a, 0)])
        self.check([one, kept, Keep()], [((0,), a, 0)])
        self.check([kept, one, Keep()], [((1,), a, 0)])
        self.check([one, Keep(), two, kept], [((0,), a, 0)])
        self.check([one, Keep(), two, kept, three, Keep()], [((0, 2, 4), a, 0)])
        self.check([Keep(), one, Keep(), kept, two], [((1,), a, 0)])
        self.check([Keep(), one, Print(at=Kept()), two], [])
        self.check([Keep(at=Kept(a)), Change(Front("b")), Keep(at=If(a))], [((1,), a, 0)])

    def test_each_place_of_an_address(self):
        a, b, c = Has("a"), Begins("b"), Ends("c")
        one = Change(First("a", "b"))
        for inner in (If(a), Not(If(a)), Not(Not(If(a))), Range(If(a), Any()), Range(Any(), If(a)), Range(Last(), Not(If(a))),
                      Not(Range(Not(If(a)), Count(2))), Range(If(a), If(a))):
            self.check([one, Print(at=inner)], [((0,), a, 0)])
        for inner in (Not(Changed()), Range(Changed(), Any()), Range(Any(), Not(Changed())), Not(Range(Any(), Changed()))):
            self.check([one, Print(at=inner)], [((0,), None, 1)])
        for inner in (Not(Kept(a)), Range(Kept(a), Any()), Range(Any(), Not(Kept(a))), Not(Range(Any(), Kept(a)))):
            self.check([Keep(), one, Print(at=inner)], [((), a, 0)])
            self.check([one, Print(at=inner)], [])
        self.check([one, Print(at=Range(If(b), If(a))), Tell("x", at=Range(Changed(), If(c)))],
                   [((0,), b, 0), ((0,), a, 0), ((0,), None, 1), ((0,), c, 0)])
        self.check([Keep(), one, Print(at=Not(Range(Kept(b), Not(If(a))))), Tell("x", at=If(b))],
                   [((), b, 0), ((1,), a, 0), ((1,), b, 0)])

    def test_each_command_has_addresses(self):
        a = Is("")
        for make in (Print, Keep, Read, lambda **at: Change(Every("a", ""), **at), lambda **at: Skip(1, **at)):
            self.check([make(at=If(a)), Tell("a")], [((), a, 0)])

    def test_each_case_once(self):
        a = Has("a")
        same = Change(First("a", "b"))
        self.assertEqual(cases_of(Script(same, same, Print(at=If(a)))), [
            ([], a), ([First("a", "b")], a), ([First("a", "b"), First("a", "b")], a)])
        self.assertEqual(cases_of(Script(Print(at=If(a)), Print(at=If(Has("a"))), Keep(), Print(at=Kept(a)))), [([], a)])
        self.check([Print(at=If(Only("ab"))), Print(at=If(Only("ba")))], [((), Only("ab"), 0), ((), Only("ba"), 0)])

    def test_up_to_four_changes(self):
        changes = [Change(First("a", "b")), Change(Every("b", "")), Change(Swap("a", "b")), Change(Behind("a")),
                   Change(Front("b"))]
        a = Has("a")
        for many in range(5):
            self.check([*changes[:many], Print(at=If(a)), Print(at=Changed()), Keep(), Print(at=Kept(a))],
                       [(range(many), a, 0), (range(many), None, 1)])
            self.check([Print(at=If(a)), *changes[:many]], [((), a, 0)])
        for commands in (changes, [*changes, Print(at=If(a))], [Print(), *changes, Keep()], [changes[0]] * 5, changes * 2):
            with self.assertRaises(TooMany) as caught:
                cases_of(Script(*commands))
            self.assertEqual(caught.exception.limit, 4)

    def test_what_is_returned_is_new(self):
        script = Script(Change(Front("a")), Print(at=If(Has("a"))))
        found = cases_of(script)
        found[1][0].append(None)
        found.append(None)
        self.assertEqual(cases_of(script), [([], Has("a")), ([Front("a")], Has("a"))])

    def test_classes_of_scripts(self):
        script = Script(Change(First("a", "b"), at=If(Begins("a"))), Print(at=Changed()), Print(at=If(Has("a"))))
        self.assertEqual([each.least for each in classes(cases_of(script))], ["", "a", " a", "aa", " aa"])


if __name__ == "__main__":
    unittest.main()
