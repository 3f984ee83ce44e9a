"""[22]: what changes make of the lines of sets."""

import unittest
from itertools import product

from linestream.changes import Behind, Every, First, Front, Swap, done_all
from linestream.conditions import Begins, Both, Either, Ends, Fails, Has, Is, Only
from linestream.linesets import LineSet, before, is_endless_on, parted_on, result_on
from tests.samples import LETTERS, in_order, lines_of

LINES = in_order([*lines_of("ab", 6), *lines_of("ab~", 4), "c", "ca", "dab"])

CHANGES = [
    First("a", "b"), First("ab", ""), First("aba", "b"), First("aab", "aabab"[:4]), Every("a", ""), Every("aa", "a"),
    Every("ab", "ba"), Every("aba", "abab"), Swap("ab", "ba"), Swap("b", "a"), Swap("a~", "~c"), Front("ab"), Behind("ba"),
]
ROWS = [
    [], *[[change] for change in CHANGES], *[[CHANGES[at], CHANGES[(at * 5 + 2) % 13]] for at in range(13)],
    [Every("a", "aa"), Every("aa", "b"), First("b", "")], [Front("a"), First("aa", ""), Behind("b")],
    [Every("b", ""), Every("aa", "ab"), Swap("ab", "ba"), First("ba", "a")], [Every("ab", "ba")] * 4,
    [Front("ab"), Every("ba", "ab"), Every("aba", ""), Behind("a")], [Swap("ab", "bc"), Swap("bc", "ca"), First("c", "")],
]
TESTS = [
    Has("ab"), Begins("b"), Ends("aba"), Is("ab"), Is(""), Only("a"), Only("ab"), Fails(Has("b")), Both(Has("a"), Has("b")),
    Either(Is("ba"), Begins("aab")), Both(Only("ab"), Fails(Has("aa"))), Both(Is("a"), Is("b")), Either(Is("a"), Is("")),
]


class ExamplesTest(unittest.TestCase):
    def test_examples_of_section_3(self):
        self.assertEqual(
            [before([Front("a")], LineSet.of(Has("ab"))) == LineSet.of(Either(Begins("b"), Has("ab"))),
             parted_on([First("a", "b")], [Every("a", "b")], LineSet.every())],
            [True, 'aa'])
        self.assertEqual(
            [result_on([Swap("a", "b")], LineSet("a", "b")), is_endless_on([Every("a", "")], LineSet.of(Only("a"))),
             LineSet.of(Is("ab")).size],
            ['b', False, 1])


class BeforeTest(unittest.TestCase):
    def test_lines_whose_results_are_in_a_set(self):
        for changes in ROWS:
            made = [done_all(changes, line) for line in LINES]
            for test in TESTS[len(changes)::2]:
                lines = LineSet.of(test)
                found = before(changes, lines)
                self.assertIs(type(found), LineSet)
                for line, result in zip(LINES, made):
                    self.assertIs(line in found, test.holds(result), (line, test))
                self.assertEqual(before(lines=lines, changes=tuple(changes)), found)
                self.assertEqual(lines, LineSet.of(test))

    def test_no_changes_and_no_lines(self):
        for test in TESTS:
            self.assertEqual(before([], LineSet.of(test)), LineSet.of(test))
        for changes in ROWS:
            self.assertEqual(before(changes, LineSet()), LineSet())
            self.assertEqual(before(changes, LineSet.every()), LineSet.every())

    def test_single_results(self):
        self.assertEqual(before([Front("ab")], LineSet("ab", "aba", "b", "")), LineSet("", "a"))
        self.assertEqual(before([Behind("ab")], LineSet("ab", "bab", "ba")), LineSet("", "b"))
        self.assertEqual(before([Swap("a", "b")], LineSet("b")), LineSet("a", "b"))
        self.assertEqual(before([Swap("a", "b")], LineSet("a")), LineSet())
        self.assertEqual(before([Every("a", "")], LineSet("")), LineSet.of(Only("a")))
        self.assertEqual(before([Every("a", "")], LineSet("a")), LineSet())
        self.assertEqual(before([First("a", "b")], LineSet("ba")), LineSet("aa"))
        self.assertEqual(before([First("a", "")], LineSet("~")), LineSet("~", "a~", "~a"))
        self.assertEqual(before([Every("aa", "a")], LineSet("aa")), LineSet("aaaa", "aaa"))
        self.assertEqual(before([Swap(LETTERS, LETTERS[::-1])], LineSet(" ")), LineSet("~"))

    def test_words_of_four_letters(self):
        for change in (First("abab", "aaab"), Every("abab", "bbbb"), Every("aaaa", "aa"), Front("abba"), Behind("abab")):
            lines = before([change], LineSet.of(Has("aabb")))
            for letters in product("ab", repeat=9):
                line = "".join(letters)
                self.assertIs(line in lines, "aabb" in change.done(line))


class PartedTest(unittest.TestCase):
    def first_parted(self, changes, others, test):
        for line in LINES:
            if test.holds(line) and done_all(changes, line) != done_all(others, line):
                return line
        return None

    def check(self, changes, others, test):
        found = parted_on(changes, others, LineSet.of(test))
        expected = self.first_parted(changes, others, test)
        if found is not None:
            self.assertTrue(test.holds(found))
            self.assertNotEqual(done_all(changes, found), done_all(others, found))
        if found is None or expected is not None:
            self.assertEqual(found if found in LINES or found is None else expected, expected)
        if found is not None and expected is not None:
            self.assertEqual(in_order([found, expected])[0], found)

    def test_each_row_beside_others(self):
        for at, changes in enumerate(ROWS):
            for others in (ROWS[at], ROWS[(at + 7) % len(ROWS)], ROWS[at // 2], [], [*changes, Swap("a", "a")]):
                for test in TESTS[at % 3::3]:
                    self.check(changes, others, test)

    def test_first_lines(self):
        every = LineSet.every()
        for changes, others, lines, expected in (
                ([], [], every, None), ([First("a", "b")], [Every("a", "b")], every, "aa"),
                ([First("a", "b")], [Every("a", "b")], every - LineSet.of(Has("aa")), "a a"),
                ([Every("ab", "")], [], every, "ab"), ([Front("a")], [Behind("a")], every, " "),
                ([Front("a")], [Behind("a")], LineSet.of(Only("a")), None),
                ([Front("a")], [Behind("a")], LineSet.of(Only("ab")), "b"), ([Swap("a", "b")], [Every("a", "b")], every, None),
                ([Swap("ab", "ba"), Swap("ab", "ba")], [], every, None), ([Swap("~", "a")], [], every, "~"),
                ([Swap("ab", "cc")], [Swap("ab", "cb")], LineSet.of(Fails(Begins("b"))), " b"),
                ([First("a", "a")], [], every, None), ([Every("aa", "a")], [First("aa", "a")], every, "aaaa"),
                ([Front("a")], [Front("b")], every, ""), ([Front("a")], [Front("b")], LineSet("b", "ab"), "b"),
                ([Front("ab"), First("ab", "")], [], every, None), ([Behind("a"), First("a", "")], [], every, "a "),
                ([Behind("a"), First("a", "")], [], LineSet.of(Only("a")), None), ([Front("a")], [], LineSet(), None),
                ([Every("a", "")], [Every("b", "")], LineSet.of(Fails(Either(Has("a"), Has("b")))), None),
                ([Every("aaaa", "b")], [Every("aaaa", "b"), First("bbb", "b")], every, "bbb"),
                ([Front("a"), Front("b")], [Front("ba")], every, None), ([Front("a"), Behind("b")], [Behind("b"), Front("a")],
                                                                        every, None)):
            self.assertEqual(parted_on(changes, others, lines), expected)
            self.assertEqual(parted_on(lines=lines, others=tuple(changes), changes=tuple(others)), expected)

    def test_letters_that_no_change_names(self):
        for lines, expected in ((LineSet.of(Both(Ends("~"), Has("b~"))), "b~"), (LineSet("~", "|", "}"), "|"),
                                (LineSet.of(Both(Has("~a"), Has("|"))), "|~a")):
            self.assertEqual(parted_on([Front("x")], [Front("y")], lines), expected)
        self.assertEqual(parted_on([Behind("x")], [Front("x")], LineSet.of(Both(Only("x~|"), Fails(Begins("x"))))
                                   - LineSet("")), "|")


class ResultTest(unittest.TestCase):
    def test_results(self):
        for changes, lines, expected in (
                ([], LineSet(), None), ([Front("a")], LineSet(), None), ([], LineSet(""), ""), ([], LineSet("ab"), "ab"),
                ([], LineSet("a", "b"), None), ([Swap("a", "b")], LineSet("a", "b"), "b"),
                ([Every("a", "")], LineSet.of(Only("a")), ""), ([Every("a", "")], LineSet.of(Only("ab")), None),
                ([First("a", "")], LineSet("a", ""), ""), ([First("a", "")], LineSet("aa", "a"), None),
                ([First("a", "")], LineSet("ab", "ba"), "b"), ([Front("b")], LineSet("a"), "ba"),
                ([Every("a", ""), Behind("c")], LineSet.of(Only("a")), "c"), ([], LineSet.every(), None),
                ([Every("a", "b"), Every("bb", "b")], LineSet("a", "ab", "bb", "b"), "b"),
                ([Every("ab", "")], LineSet("ab", "", "abab"), ""), ([Every("ab", "")], LineSet("ab", "", "aabb"), None),
                ([Swap("~", "a")], LineSet("x" * 30 + "~"), "x" * 30 + "a")):
            self.assertEqual(result_on(changes, lines), expected)
            self.assertEqual(result_on(lines=lines, changes=tuple(changes)), expected)

    def test_each_row(self):
        for changes in ROWS:
            for at in range(0, 60, 4):
                some = LINES[at:at + 3]
                results = {done_all(changes, line) for line in some}
                self.assertEqual(result_on(changes, LineSet(*some)), results.pop() if len(results) == 1 else None)
                self.assertEqual(result_on(changes, LineSet(some[0])), done_all(changes, some[0]))

    def test_infinite_sets(self):
        for changes in ROWS:
            for test in TESTS:
                found = result_on(changes, LineSet.of(test))
                results = {done_all(changes, line) for line in LINES if test.holds(line)}
                if found is None:
                    self.assertNotEqual(len(results), 1)
                else:
                    self.assertEqual(results, {found})


class EndlessTest(unittest.TestCase):
    def test_results_that_are_infinitely_many(self):
        every = LineSet.every()
        for changes, lines, expected in (
                ([], LineSet(), False), ([], LineSet("", "a"), False), ([], every, True), ([Front("a")], LineSet("a"), False),
                ([Every("a", "")], LineSet.of(Only("a")), False), ([Every("a", "")], LineSet.of(Only("ab")), True),
                ([First("a", "")], LineSet.of(Only("a")), True), ([Every("aa", "")], LineSet.of(Only("a")), False),
                ([Every("ab", "")], LineSet.of(Only("ab")), True), ([Swap("a", "b"), Every("b", "")], LineSet.of(Only("ab")), False),
                ([Every("a", ""), Every("b", "")], LineSet.of(Only("ab")), False),
                ([Every("a", ""), Every("b", ""), Front("ab")], LineSet.of(Only("ba")), False),
                ([Every("a", ""), Front("aa"), Every("a", "aa")], LineSet.of(Only("a")), False),
                ([Every("a", "")], LineSet.of(Fails(Has("b"))), True), ([Every("a", "b"), Every("bb", "")], LineSet.of(Only("ab")), False),
                ([Every("a", "")], LineSet.of(Both(Only("ab"), Fails(Has("bb")))), True),
                ([Every("a", "")], LineSet.of(Only("a")) | LineSet("b", "bb", "~" * 25), False),
                ([Every(letter, "") for letter in "abcd"], LineSet.of(Only("abcd")), False),
                ([Every(letter, "") for letter in "abcd"], LineSet.of(Only("abcde")), True)):
            self.assertIs(is_endless_on(changes, lines), expected)
            self.assertIs(is_endless_on(lines=lines, changes=tuple(changes)), expected)

    def test_each_row(self):
        for changes in ROWS:
            for test in TESTS:
                lines = LineSet.of(test)
                short = {done_all(changes, line) for line in lines_of("ab", 6) if test.holds(line)}
                long = {done_all(changes, line) for line in ("a" * 40, "ab" * 20, "ba" * 20 + "ba", "b" * 40, "~" * 40,
                                                             "aab" + "b" * 40, "b" + "a" * 40, "~" * 30 + "aba", "~ab" * 20,
                                                             "aab" + "~" * 40, "b" + "~" * 40)
                        if test.holds(line)}
                grown = max([len(line) for line in long], default=0) > 12
                self.assertIs(is_endless_on(changes, lines), grown)
                self.assertTrue(grown or len(short) < 64)
            self.assertIs(is_endless_on(changes, LineSet(*LINES)), False)


if __name__ == "__main__":
    unittest.main()
