"""[2], [3]: letters, lines and words, and the order of lines."""

import unittest

from linestream.lines import are_different, first_line, is_letter, is_line, is_short_word, is_word, line_order
from tests.samples import LETTERS, lines_of, no_lines, no_strings, strangers


class LettersTest(unittest.TestCase):
    def test_there_are_94(self):
        letters = [chr(code) for code in range(0x3000) if is_letter(chr(code))]
        self.assertEqual(len(letters), 94)
        self.assertEqual("".join(letters), LETTERS)

    def test_the_edges(self):
        for character, told in ((" ", True), ("~", True), ("$", True), ("&", True), ("%", False), ("\x1f", False),
                                ("\x7f", False), ("\t", False), ("\n", False), ("\U0010ffff", False)):
            with self.subTest(character=character):
                self.assertIs(is_letter(character), told)


class LinesTest(unittest.TestCase):
    def test_lines(self):
        for line in ("", " ", "~", "a", "a b", "\"\\'", LETTERS, "a" * 10000):
            with self.subTest(line=line):
                self.assertIs(is_line(line), True)
                self.assertIs(is_word(line), line != "")

    def test_no_lines(self):
        for value in no_lines() + no_strings() + strangers():
            with self.subTest(value=value):
                self.assertIs(is_line(value), False)
                self.assertIs(is_word(value), False)
                self.assertIs(is_short_word(value), False)

    def test_short_words(self):
        for length in range(12):
            with self.subTest(length=length):
                self.assertIs(is_short_word("a" * length), 1 <= length <= 8)

    def test_different_letters(self):
        for line, told in (("", True), ("a", True), ("ab", True), ("aa", False), ("aba", False), (LETTERS, True),
                           (LETTERS + " ", False)):
            with self.subTest(line=line):
                self.assertIs(are_different(line), told)


class OrderTest(unittest.TestCase):
    def test_fewer_letters_first_then_the_least(self):
        ordered = ["", " ", "!", "A", "a", "b", "~", "  ", "aa", "ab", "b ", "ba", "~~", "   ", "aaa"]
        self.assertEqual(sorted(sorted(ordered), key=line_order), ordered)

    def test_the_first_line(self):
        self.assertEqual(first_line(["aa", "b", "ab"]), "b")
        self.assertEqual(first_line(["b", "a", "aa"]), "a")
        self.assertEqual(first_line(("ba", "ab", "b~")), "ab")
        self.assertEqual(first_line(["a", ""]), "")
        self.assertEqual(first_line(["~"]), "~")

    def test_every_two_lines(self):
        lines = lines_of(" a~", 3)
        for one in lines:
            for other in lines:
                ahead = len(one) < len(other) or (len(one) == len(other) and one < other)
                self.assertIs(line_order(one) < line_order(other), ahead)
                self.assertEqual(first_line([one, other]), one if ahead else other)

    def test_the_argument_stays(self):
        lines = ["b", "a"]
        first_line(lines)
        self.assertEqual(lines, ["b", "a"])


if __name__ == "__main__":
    unittest.main()
