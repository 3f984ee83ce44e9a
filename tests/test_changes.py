"""[11], [12]: places and changes."""

import copy
import unittest

from linestream.changes import Behind, Every, First, Front, LineChange, Swap, done_all, places
from linestream.conditions import Both, Ends, Fails, Has, Only
from linestream.errors import InvalidChange
from tests.samples import (
    LETTERS, any_values, lines_of, no_lines, no_strings, some_addresses, some_changes, some_commands, some_tests)

PAIRS = (First, Every)
WORDS = (Front, Behind)


def every_letter_by_letter(old, new, line):
    """What Every makes, as [12] tells it."""
    made, at = "", 0
    while at < len(line):
        if line[at:at + len(old)] == old:
            made, at = made + new, at + len(old)
        else:
            made, at = made + line[at], at + 1
    return made


class CheckedTest(unittest.TestCase):
    def assert_invalid(self, argument, kind, *arguments, **named):
        with self.assertRaises(InvalidChange) as caught:
            kind(*arguments, **named)
        self.assertEqual(caught.exception.argument, argument)


class ExamplesTest(unittest.TestCase):
    def test_examples_of_section_2(self):
        self.assertEqual(
            [Every("aa", "b").done("aaaaa"), Swap("ab", "ba").done("abc"), done_all([Front("a"), First("aa", "")], "ab")],
            ['bba', 'bac', 'b'])
        self.assertEqual(
            [Both(Has("a"), Fails(Ends("a"))).holds("ab"), Only("").holds(""), First("a", "a").has_place("b")],
            [True, True, False])

    def test_example_of_every(self):
        self.assertEqual(Every("aa", "b").done("aaa"), "ba")


class PlacesTest(unittest.TestCase):
    def test_places(self):
        for line, word, expected in (
                ("aaaa", "aa", [0, 1, 2]), ("aaaa", "a", [0, 1, 2, 3]), ("aaaa", "aaaa", [0]), ("aaaa", "aaaaa", []),
                ("", "a", []), ("abab", "ab", [0, 2]), ("ababa", "aba", [0, 2]), ("cab", "ab", [1]), ("abc", "ab", [0]),
                ("abc", "x", []), ("a b ~", " ", [1, 3]), ("~", "~", [0]), ("abcdefghij", "abcdefghij", [0]),
                ("aabaabaa", "aabaa", [0, 3])):
            with self.subTest(line=line, word=word):
                self.assertEqual(places(line, word), expected)
                self.assertEqual(places(word=word, line=line), expected)
                self.assertIs(type(places(line, word)), list)
                self.assertEqual({type(at) for at in places(line, word)} - {int}, set())

    def test_places_are_new(self):
        found = places("aa", "a")
        found.append(7)
        self.assertEqual(places("aa", "a"), [0, 1])

    def test_places_of_each_word_in_each_line(self):
        for line in lines_of("ab", 6):
            for word in lines_of("ab", 3)[1:]:
                self.assertEqual(places(line, word), [at for at in range(len(line)) if line[at:].startswith(word)])


class DoneTest(unittest.TestCase):
    def test_first(self):
        for old, new, line, expected in (
                ("aa", "b", "aaa", "ba"), ("a", "", "bab", "bb"), ("a", "aa", "a", "aa"), ("ab", "ba", "aab", "aba"),
                ("a", "b", "", ""), ("a", "b", "c", "c"), ("a", "b", "ca", "cb"), ("a", "a", "aa", "aa"),
                ("ab", "", "aabb", "ab"), (" ", "~", "a b c", "a~b c"), ("abcdefgh", "hgfedcba", "abcdefgh", "hgfedcba")):
            with self.subTest(old=old, new=new, line=line):
                self.assertEqual(First(old, new).done(line), expected)
                self.assertEqual(First(new=new, old=old).done(line=line), expected)

    def test_every(self):
        for old, new, line, expected in (
                ("aa", "b", "aaa", "ba"), ("aa", "b", "aaaa", "bb"), ("a", "aa", "aa", "aaaa"), ("ab", "a", "abb", "ab"),
                ("ab", "", "aabb", "ab"), ("a", "", "aaa", ""), ("a", "b", "", ""), ("aba", "b", "ababa", "bba"),
                ("aba", "c", "abaaba", "cc"), ("a", "b", "cacac", "cbcbc"), ("aa", "a", "aaaa", "aa")):
            with self.subTest(old=old, new=new, line=line):
                self.assertEqual(Every(old, new).done(line), expected)
                self.assertEqual(Every(new=new, old=old).done(line=line), expected)

    def test_first_and_every_of_each_line(self):
        for old in lines_of("ab", 3)[1:]:
            for new in ("", "a", "ab", "bb", "~"):
                for line in lines_of("ab", 6):
                    found = places(line, old)
                    at = found[0] if found else None
                    made = line if at is None else line[:at] + new + line[at + len(old):]
                    self.assertEqual(First(old, new).done(line), made)
                    self.assertEqual(Every(old, new).done(line), every_letter_by_letter(old, new, line))
                    self.assertIs(First(old, new).has_place(line), bool(found))
                    self.assertIs(Every(old, new).has_place(line), bool(found))

    def test_swap(self):
        for letters, others, line, expected in (
                ("ab", "ba", "abba", "baab"), ("abc", "bca", "abcd", "bcad"), ("a", "b", "aabc", "bbbc"),
                ("ab", "cc", "ab", "cc"), ("ab", "bc", "ab", "bc"), ("a", "a", "a", "a"), ("a", "b", "", ""),
                (" ~", "~ ", "a ~", "a~ "), (LETTERS, LETTERS[::-1], LETTERS, LETTERS[::-1])):
            with self.subTest(letters=letters, others=others, line=line):
                self.assertEqual(Swap(letters, others).done(line), expected)
                self.assertEqual(Swap(others=others, letters=letters).done(line=line), expected)

    def test_front_and_behind(self):
        for word, line in (("a", ""), ("a", "b"), ("ab", "ab"), ("abcdefgh", "x" * 100), ("~", " ")):
            self.assertEqual(Front(word).done(line), word + line)
            self.assertEqual(Behind(word).done(line), line + word)
            self.assertEqual(Front(word=word).done(line=line), word + line)
            self.assertEqual(Behind(word=word).done(line=line), line + word)

    def test_has_place(self):
        for kind in PAIRS:
            for line, expected in (("", False), ("b", False), ("a", True), ("aba", True), ("ba", True)):
                self.assertIs(kind("a", "a").has_place(line), expected)
                self.assertIs(kind("a", "").has_place(line=line), expected)
        for change in (Swap("a", "b"), Swap("a", "a"), Front("a"), Behind("a")):
            for line in ("", "b", "a"):
                self.assertIs(change.has_place(line), True)

    def test_what_is_done_is_a_string(self):
        for change in some_changes():
            for line in ("", "a", "ab", "~"):
                self.assertIs(type(change.done(line)), str)

    def test_done_all(self):
        for changes, line, expected in (
                ([], "ab", "ab"), ([Front("a")], "b", "ab"), ([Front("a"), Behind("b")], "", "ab"),
                ([First("a", "b"), First("b", "c")], "ab", "cb"), ([Every("a", "b"), Every("b", "a")], "ab", "aa"),
                ([Swap("ab", "ba"), Swap("ab", "ba")], "ab", "ab"), ([Behind("a")] * 5, "", "aaaaa")):
            before = list(changes)
            self.assertEqual(done_all(changes, line), expected)
            self.assertEqual(done_all(tuple(changes), line), expected)
            self.assertEqual(done_all(line=line, changes=changes), expected)
            self.assertEqual(changes, before)


class InvalidTest(CheckedTest):
    def test_lengths(self):
        for kind in PAIRS:
            for length in (1, 8):
                self.assertEqual(kind("a" * length, "").old, "a" * length)
            for length in (0, 9, 1000):
                self.assert_invalid("old", kind, "a" * length, "b")
                self.assert_invalid("old", kind, new="b", old="a" * length)
            for length in (0, 8):
                self.assertEqual(kind("a", "b" * length).new, "b" * length)
            for length in (9, 10, 1000):
                self.assert_invalid("new", kind, "a", "b" * length)
                self.assert_invalid("new", kind, new="b" * length, old="a")
        for kind in WORDS:
            for length in (1, 8):
                self.assertEqual(kind("a" * length).word, "a" * length)
            for length in (0, 9, 1000):
                self.assert_invalid("word", kind, "a" * length)
                self.assert_invalid("word", kind, word="a" * length)

    def test_letters_of_swap(self):
        for letters in ("a", "ab", " ~", LETTERS):
            self.assertEqual(Swap(letters, letters[::-1]).letters, letters)
            self.assertEqual(Swap(letters, "a" * len(letters)).others, "a" * len(letters))
            self.assert_invalid("others", Swap, letters, letters[1:])
            self.assert_invalid("others", Swap, letters, letters + "a")
        for letters in ("", "aa", "aba", "~~", LETTERS + "a", "a" * 1000):
            self.assert_invalid("letters", Swap, letters, "b" * len(letters))
            self.assert_invalid("letters", Swap, others="b" * len(letters), letters=letters)
        self.assert_invalid("others", Swap, "ab", "b%")
        self.assert_invalid("others", Swap, "a", "\t")

    def test_each_character(self):
        for letter in LETTERS:
            self.assertEqual([First(letter, letter).old, Every("a", letter).new, Front(letter).word], [letter] * 3)
            self.assertEqual(Swap(letter, letter).done(letter), letter)
        for code in [*range(32), 37, *range(127, 0x250), 0x2028, 0xd800, 0x10ffff]:
            for value in (chr(code), "a" + chr(code)):
                for kind in PAIRS:
                    self.assert_invalid("old", kind, value, "b")
                    self.assert_invalid("new", kind, "b", value)
                for kind in WORDS:
                    self.assert_invalid("word", kind, value)
                self.assert_invalid("letters", Swap, value, "ab"[:len(value)])
                self.assert_invalid("others", Swap, "ab"[:len(value)], value)

    def test_values_of_any_kind(self):
        for value in any_values() + some_tests() + some_changes() + some_addresses() + some_commands():
            with self.subTest(value=value):
                for kind in PAIRS:
                    self.assert_invalid("old", kind, value, "b")
                    self.assert_invalid("old", kind, value, value)
                    self.assert_invalid("old", kind, new=None, old=value)
                    self.assert_invalid("new", kind, "b", value)
                    self.assert_invalid("new", kind, new=value, old="b")
                for kind in WORDS:
                    self.assert_invalid("word", kind, value)
                    self.assert_invalid("word", kind, word=value)
                self.assert_invalid("letters", Swap, value, "b")
                self.assert_invalid("letters", Swap, value, value)
                self.assert_invalid("letters", Swap, others=None, letters=value)
                self.assert_invalid("others", Swap, "b", value)

    def test_the_first_wrong_argument(self):
        for kind in PAIRS:
            self.assert_invalid("old", kind, "", "b" * 9)
            self.assert_invalid("old", kind, new="%", old="")
        self.assert_invalid("letters", Swap, "aa", "b")
        self.assert_invalid("letters", Swap, others="b%", letters="")

    def test_wrong_arguments_stay(self):
        for value in ([], ["a"], {"a": ["b"]}):
            before = copy.deepcopy(value)
            self.assert_invalid("old", First, value, value)
            self.assertEqual(value, before)


class EqualityTest(unittest.TestCase):
    def test_equal_and_unequal_changes(self):
        for at, one in enumerate(some_changes()):
            for place, other in enumerate(some_changes()):
                self.assertIs(one == other, at == place)
                self.assertIs(one != other, at != place)

    def test_values_of_another_kind(self):
        for change in some_changes():
            for value in no_strings() + no_lines() + ["a", "ab", LineChange(), *some_tests(), First, object()]:
                self.assertIs(change == value, False)
                self.assertIs(value == change, False)
                self.assertIs(change != value, True)

    def test_below_line_change(self):
        for kind in (First, Every, Swap, Front, Behind):
            self.assertTrue(issubclass(kind, LineChange))
            for name in ("__init__", "__eq__", "done", "has_place"):
                self.assertIn(name, vars(kind))

    def test_properties(self):
        for change, expected in (
                (First("ab", "c"), {"old": "ab", "new": "c"}), (Every("ab", ""), {"old": "ab", "new": ""}),
                (Swap("ab", "cd"), {"letters": "ab", "others": "cd"}), (Front("ab"), {"word": "ab"}),
                (Behind("ab"), {"word": "ab"})):
            for name, value in expected.items():
                self.assertEqual(getattr(change, name), value)
                self.assertRaises(AttributeError, setattr, change, name, "x")


if __name__ == "__main__":
    unittest.main()
