"""[20], [21]: sets of lines and their tables."""

import unittest

from linestream.changes import Front
from linestream.conditions import Begins, Both, Either, Ends, Fails, Has, Is, Only
from linestream.errors import InvalidLine
from linestream.linesets import LineSet, before
from tests.samples import (
    LETTERS, any_values, in_order, lines_of, no_lines, some_addresses, some_changes, some_commands, some_tests)

LINES = in_order([*lines_of("ab", 7), *lines_of("ab~", 4), "c", "abc", "cab", " ", "x" * 9])

TESTS = [
    *some_tests(), Has("aa"), Has("aba"), Has("abab"), Has("aaaa"), Begins("abab"), Begins("aa"), Ends("abab"), Ends("aa"),
    Ends("aaaa"), Is("abab"), Is("~"), Only("~"), Only("ba~"), Only(LETTERS), Fails(Only(LETTERS)), Fails(Is("")),
    Both(Has("abab"), Fails(Ends("aa"))), Either(Begins("ab"), Both(Ends("ba"), Fails(Is("aba")))),
    Both(Both(Has("ab"), Has("ba")), Both(Fails(Has("aaa")), Only("ab"))), Both(Is("a"), Is("b")),
    Either(Either(Is("abab"), Begins("baba")), Either(Ends("bbbb"), Has("abba"))), Fails(Either(Has("a"), Only("b"))),
    Both(Both(Has("abab"), Has("baba")), Both(Has("aabb"), Has("bbaa"))), Fails(Fails(Fails(Ends("ab")))),
]


def steps_of(table):
    """For each state, and for one more that stands for none, the states behind letters: a list for each state, with
    one letter for all that lead from each state to the same."""
    tables = [{letter: index for letters, index in moves for letter in letters} for _, moves in table] + [{}]
    columns = {tuple(found.get(letter, len(table)) for found in tables) for letter in LETTERS}
    return [list(row) for row in zip(*sorted(columns))]


def unlike(table):
    """The pairs of states that some line parts, the state for none among them."""
    steps = steps_of(table)
    ends = [is_in for is_in, _ in table] + [False]
    states = range(len(steps))
    found = {(one, other) for one in states for other in states if ends[one] != ends[other]}
    is_new = True
    while is_new:
        new = {(one, other) for one in states for other in states
               if (one, other) not in found and any(pair in found for pair in zip(steps[one], steps[other]))}
        found |= new
        is_new = bool(new)
    return found


class TableTest(unittest.TestCase):
    def check_kinds(self, table):
        self.assertIs(type(table), tuple)
        for state in table:
            self.assertEqual([type(state), len(state), type(state[0]), type(state[1])], [tuple, 2, bool, tuple])
            for move in state[1]:
                self.assertEqual([type(move), len(move), type(move[0]), type(move[1])], [tuple, 2, str, int])

    def check_moves(self, table):
        for is_in, moves in table:
            self.assertEqual(list(moves), sorted(moves))
            self.assertEqual(len({index for _, index in moves}), len(moves))
            together = "".join(letters for letters, _ in moves)
            self.assertEqual(len(set(together)), len(together))
            for letters, index in moves:
                self.assertTrue(letters and set(letters) <= set(LETTERS))
                self.assertEqual(list(letters), sorted(letters))
                self.assertIn(index, range(len(table)))

    def check_numbers(self, table):
        met = [0]
        for state in range(len(table)):
            self.assertLess(state, len(met))
            met += [index for _, index in table[state][1] if index not in met]
        self.assertEqual(met, list(range(len(table))))

    def check_states(self, table):
        parted, none = unlike(table), len(table)
        for one in range(len(table)):
            for other in range(one):
                self.assertIn((one, other), parted)
            if one or len(table) > 1:
                self.assertIn((one, none), parted)

    def check_all(self, lines):
        table = lines.table
        self.check_kinds(table)
        self.check_moves(table)
        self.check_numbers(table)
        self.check_states(table)

    def test_tables_that_are_told(self):
        for lines, table in (
                (LineSet(), ((False, ()),)), (LineSet(""), ((True, ()),)), (LineSet.every(), ((True, ((LETTERS, 0),)),)),
                (LineSet("a"), ((False, (("a", 1),)), (True, ()))), (LineSet("b", "a"), ((False, (("ab", 1),)), (True, ()))),
                (LineSet("", "a", "aa"), ((True, (("a", 1),)), (True, (("a", 2),)), (True, ()))),
                (LineSet("ba", "ab"), ((False, (("a", 1), ("b", 2))), (False, (("b", 3),)), (False, (("a", 3),)), (True, ()))),
                (LineSet.of(Only("ba")), ((True, (("ab", 0),)),)), (LineSet.of(Only("")), ((True, ()),)),
                (LineSet.of(Begins("a")), ((False, (("a", 1),)), (True, ((LETTERS, 1),)))),
                (LineSet.of(Fails(Is(""))), ((False, ((LETTERS, 1),)), (True, ((LETTERS, 1),))))):
            self.assertEqual(lines.table, table)
            self.check_all(lines)

    def test_letters_that_no_test_names(self):
        rest = LETTERS.replace("b", "")
        self.assertEqual(LineSet.of(Ends("b")).table, ((False, ((rest, 0), ("b", 1))), (True, ((rest, 0), ("b", 1)))))
        rest = LETTERS.replace(" ", "")
        self.assertEqual(LineSet.of(Has(" ")).table, ((False, ((" ", 1), (rest, 0))), (True, ((LETTERS, 1),))))

    def test_the_order_of_moves(self):
        self.assertEqual(LineSet.of(Both(Only("abc"), Fails(Has("b")))).table, ((True, (("ac", 0),)),))
        self.assertEqual(LineSet("~", " a", "Zb").table[0], (False, ((" ", 1), ("Z", 2), ("~", 3))))
        self.assertEqual(LineSet("ax", "c", "bx").table[0], (False, (("ab", 1), ("c", 2))))

    def test_tables_are_least(self):
        for test in TESTS:
            self.check_all(LineSet.of(test))
        for lines in (LineSet("ab", "cb", "b"), LineSet("aaa", "aba", "bba", "bb"), LineSet(*lines_of("ab", 3)),
                      LineSet(*lines_of("ab", 4)[5:]), LineSet("abc" * 9, "abc" * 9 + "a", "b" * 22)):
            self.check_all(lines)

    def test_tables_of_operators_are_least(self):
        for one in TESTS[::5]:
            for other in TESTS[1::4]:
                first, second = LineSet.of(one), LineSet.of(other)
                for lines in (first | second, first & second, first - second, second - first):
                    self.check_all(lines)

    def test_tables_of_before_are_least(self):
        for change in some_changes():
            for test in TESTS[::5]:
                self.check_all(before([change], LineSet.of(test)))

    def test_the_same_table_however_it_was_made(self):
        every = LineSet.every()
        for lines in (LineSet() | LineSet("ab"), LineSet("ab") & every, LineSet.of(Is("ab")), LineSet("ab", "ab"),
                      LineSet("a", "ab") - LineSet("a"), before([Front("a")], LineSet("aab")),
                      LineSet.of(Both(Both(Begins("a"), Ends("b")), Both(Fails(Has("abb")), Fails(Has("b~"))))) & LineSet("ab", "b"),
                      every - (every - LineSet("ab"))):
            self.assertEqual(lines.table, LineSet("ab").table)
            self.assertTrue(lines == LineSet("ab"))
        for one, other in ((Fails(Either(Has("a"), Has("b"))), Both(Fails(Has("b")), Fails(Has("a")))),
                           (Only("ab"), Only("ba")), (Has("a"), Fails(Only(LETTERS.replace("a", "")))),
                           (Both(Has("a"), Fails(Has("a"))), Both(Is("a"), Is("b"))), (Is(""), Only("")),
                           (Either(Has("a"), Fails(Has("a"))), Only(LETTERS)), (Both(Begins("ab"), Ends("ba")), Both(
                               Ends("ba"), Begins("ab")))):
            self.assertEqual(LineSet.of(one).table, LineSet.of(other).table)
        self.assertEqual((every - LineSet.of(Has("a"))).table, LineSet.of(Fails(Has("a"))).table)
        self.assertEqual(LineSet(*lines_of("ab", 3)).table, LineSet(*reversed(lines_of("ab", 3))).table)

    def test_tables_are_equal_each_time(self):
        lines = LineSet.of(Has("ab"))
        self.assertEqual(lines.table, lines.table)
        self.assertEqual(lines.table, LineSet.of(Has("ab")).table)


class MembersTest(unittest.TestCase):
    def test_in_exactly_if_the_test_holds(self):
        for test in TESTS:
            lines = LineSet.of(test)
            for line in LINES:
                self.assertIs(line in lines, test.holds(line), (test, line))
        self.assertIn("a", LineSet.of(test=Has("a")))

    def test_operators(self):
        for one in TESTS[::3]:
            for other in TESTS[1::5]:
                first, second = LineSet.of(one), LineSet.of(other)
                either, both, only = first | second, first & second, first - second
                for line in LINES:
                    is_first, is_second = one.holds(line), other.holds(line)
                    self.assertIs(line in either, is_first or is_second)
                    self.assertIs(line in both, is_first and is_second)
                    self.assertIs(line in only, is_first and not is_second)
                self.assertIs(first.is_within(second), not only)
                self.assertIs(first == second, not only and not second - first)
                self.assertIs(first != second, not first == second)
                self.assertIs(first.is_within(other=either), True)
                self.assertEqual(first, LineSet.of(one))

    def test_values_of_any_kind(self):
        values = [*any_values(), *some_tests(), *some_changes(), *some_addresses(), *some_commands(), LineSet, object()]
        for lines in (LineSet(), LineSet("a", ""), LineSet.every(), LineSet.of(Has("a"))):
            for value in values:
                self.assertIs(value in lines, False)
                self.assertIs(lines == value, lines == LineSet() and isinstance(value, LineSet) and not value)
            for line in no_lines():
                self.assertIs(line in lines, False)
        self.assertIs("é" in LineSet.every(), False)
        self.assertIs("a" * 100000 in LineSet.every(), True)

    def test_another_kind_is_not_equal(self):
        for value in ("a", ("a",), ["a"], {"a"}, {"a": True}, LineSet("a").table, None, True, Is("a")):
            self.assertIs(LineSet("a") == value, False)
            self.assertIs(value == LineSet("a"), False)
            self.assertIs(LineSet("a") != value, True)

    def test_bool(self):
        for lines, expected in ((LineSet(), False), (LineSet(""), True), (LineSet("a"), True), (LineSet.every(), True),
                                (LineSet("a") - LineSet("a"), False), (LineSet.of(Both(Is("a"), Is("b"))), False),
                                (LineSet.of(Only("")), True), (LineSet.of(Has("a")), True)):
            self.assertIs(bool(lines), expected)

    def test_is_within(self):
        for one, other, expected in (
                (LineSet(), LineSet(), True), (LineSet(), LineSet("a"), True), (LineSet(""), LineSet(), False),
                (LineSet("a"), LineSet("a", "b"), True), (LineSet("a", "b"), LineSet("a"), False),
                (LineSet("a"), LineSet("aa"), False), (LineSet("aa"), LineSet("a"), False),
                (LineSet.every(), LineSet.of(Only(LETTERS)), True), (LineSet.every(), LineSet.of(Only("a")), False),
                (LineSet.of(Begins("ab")), LineSet.of(Has("b")), True), (LineSet.of(Has("b")), LineSet.of(Begins("ab")), False)):
            self.assertIs(one.is_within(other), expected)

    def test_size(self):
        for lines, expected in (
                (LineSet(), 0), (LineSet(""), 1), (LineSet("a"), 1), (LineSet("a", "a"), 1), (LineSet("a", "", "ab"), 3),
                (LineSet(*lines_of("ab", 6)), 127), (LineSet.every(), None), (LineSet.of(Only("")), 1),
                (LineSet.of(Only("a")), None), (LineSet.of(Has("a")), None), (LineSet.of(Is("ab")), 1),
                (LineSet.of(Both(Only("a"), Fails(Has("aaa")))), 3), (LineSet.of(Both(Only("ab"), Fails(Has("ab")))), None),
                (LineSet.of(Fails(Begins("a"))) - LineSet.every(), 0), (LineSet.of(Only("a")) - LineSet.of(Has("aa")), 2),
                (before([Front("a")], LineSet("ab", "ba", "a")), 2)):
            self.assertEqual(lines.size, expected)
            self.assertIn(type(lines.size), (int, type(None)))
        two = LineSet.every() - LineSet.of(Fails(Is(""))) | before([Front("a")], LineSet.of(Both(Begins("a"), Is("a~"))))
        self.assertEqual(two.size, 2)

    def test_size_of_many(self):
        short = LineSet.every()
        for letter in "abc":
            short = short - LineSet.of(Has(letter))
        self.assertIsNone(short.size)
        three = LineSet.every() - before([Front("x")], LineSet.of(Begins("xy")))
        self.assertIsNone(three.size)
        one_letter = LineSet(*LETTERS)
        self.assertEqual([one_letter.size, (one_letter | LineSet("")).size, one_letter.table[0][1]], [94, 95, ((LETTERS, 1),)])
        pairs = LineSet(*[one + other for one in LETTERS for other in LETTERS])
        self.assertEqual([pairs.size, len(pairs.table)], [94 * 94, 3])

    def test_least(self):
        for lines, expected in (
                (LineSet(), None), (LineSet(""), ""), (LineSet("b", "ab"), "b"), (LineSet("b", "a", "aa"), "a"),
                (LineSet("ba", "ab", "abc"), "ab"), (LineSet.every(), ""), (LineSet.of(Has("ba")), "ba"),
                (LineSet.of(Fails(Is(""))), " "), (LineSet.of(Both(Has("b"), Has("a"))), "ab"),
                (LineSet.of(Both(Fails(Is("")), Only("~}"))), "}"), (LineSet.of(Both(Has("ab"), Ends("ba"))), "aba"),
                (LineSet.of(Both(Is("a"), Is("b"))), None), (LineSet("aa", "B", "b"), "B"), (LineSet("x" * 30), "x" * 30),
                (LineSet("ab", "ba", "bc") - LineSet("ab"), "ba"), (LineSet("~", "a a", "a  "), "~")):
            self.assertEqual(lines.least, expected)
        for test in TESTS:
            found = [line for line in LINES if test.holds(line)]
            least = LineSet.of(test).least
            if found:
                self.assertTrue(test.holds(least))
                self.assertEqual(in_order([least, found[0]])[0], least)

    def test_least_of_lines(self):
        for at in range(len(LINES)):
            self.assertEqual(LineSet(*LINES[at:at + 9]).least, LINES[at])
            self.assertEqual(LineSet(*reversed(LINES[at:at + 9])).least, LINES[at])


class LinesTest(unittest.TestCase):
    def test_sets_of_lines(self):
        for some in ([], [""], ["a"], ["a", "a"], ["a", "ab", "abc"], ["abc", "ab"], ["", "b", "ba"], ["x" * 25, "x" * 24],
                     ["ab" * 15, "ab" * 15 + "a"], lines_of("ab~", 2), list(LETTERS), ["a" * 3000, "a" * 2999 + "b"]):
            lines = LineSet(*some)
            for line in [*LINES, *some, *[each + "a" for each in some], *[each[1:] for each in some]]:
                self.assertIs(line in lines, line in some)
            self.assertEqual(lines.size, len(set(some)))
            self.assertEqual(lines.least, in_order(some)[0] if some else None)

    def test_invalid_lines(self):
        for value in [*any_values(), *some_tests(), *some_changes(), *some_addresses(), *some_commands()]:
            for arguments in ([value], ["a", value], ["a", value, "%", None], [value, value]):
                with self.assertRaises(InvalidLine) as caught:
                    LineSet(*arguments)
                self.assertIs(caught.exception.value, value)

    def test_the_very_first_one(self):
        first, second = ["a"], ["a"]
        with self.assertRaises(InvalidLine) as caught:
            LineSet("a", first, second)
        self.assertIs(caught.exception.value, first)
        self.assertEqual(first, ["a"])


if __name__ == "__main__":
    unittest.main()
