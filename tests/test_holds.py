"""[10]: what holds tells."""

import unittest

from linestream.conditions import Begins, Both, Either, Ends, Fails, Has, Is, Only
from tests.samples import LETTERS, lines_of, some_tests

WORDS = lines_of("ab", 3)[1:]
LINES = lines_of("ab~", 4)


def stands_at(word, line, index):
    return line[index:index + len(word)] == word


def told(test, line):
    """What the document says of a test and a line, written in another way than in the package."""
    if isinstance(test, Has):
        return any(stands_at(test.word, line, index) for index in range(len(line)))
    if isinstance(test, Begins):
        return stands_at(test.word, line, 0)
    if isinstance(test, Ends):
        return len(test.word) <= len(line) and stands_at(test.word, line, len(line) - len(test.word))
    if isinstance(test, Is):
        return len(line) == len(test.line) and stands_at(test.line, line, 0)
    if isinstance(test, Only):
        return not set(line) - set(test.letters)
    if isinstance(test, Fails):
        return not told(test.test, line)
    both = [told(test.one, line), told(test.other, line)]
    return all(both) if isinstance(test, Both) else any(both)


class HoldsTest(unittest.TestCase):
    def check(self, test, holding, failing):
        for line, expected in [(line, True) for line in holding] + [(line, False) for line in failing]:
            with self.subTest(test=type(test).__name__, line=line):
                self.assertIs(test.holds(line), expected)
                self.assertIs(test.holds(line=line), expected)
                self.assertIs(told(test, line), expected)

    def check_all(self, tests, lines=LINES):
        for test in tests:
            for line in lines:
                self.assertIs(test.holds(line), told(test, line), (type(test).__name__, vars(test), line))

    def test_has(self):
        self.check(Has("ab"), ["ab", "abc", "xaby", "xab", "aab", "abab", "~ab "], ["", "a", "b", "ba", "a b", "AB", "xyz"])
        self.check(Has("aa"), ["aa", "aaa", "baaab"], ["", "a", "aba", "bab"])
        self.check(Has(" "), [" ", "a ", " a", "a b"], ["", "a", "~"])
        self.check_all([Has(word) for word in WORDS])

    def test_begins(self):
        self.check(Begins("ab"), ["ab", "abc", "abab", "ab~"], ["", "a", "b", "xab", "xaby", "ba", " ab", "AB"])
        self.check(Begins("aa"), ["aa", "aaa", "aab"], ["", "a", "ab", "baa", "baaa"])
        self.check(Begins("ab~ "), ["ab~ ", "ab~  "], ["ab~", "ab ~"])
        self.check_all([Begins(word) for word in WORDS])

    def test_ends(self):
        self.check(Ends("ab"), ["ab", "xab", "abab", "aab", "~ab"], ["", "a", "b", "abc", "xaby", "ba", "ab ", "AB"])
        self.check(Ends("aa"), ["aa", "aaa", "baa"], ["", "a", "ba", "aab", "aaab"])
        self.check(Ends("abc"), ["abc", "ababc"], ["bc", "c", "", "ab"])
        self.check_all([Ends(word) for word in WORDS])

    def test_is(self):
        self.check(Is("ab"), ["ab"], ["", "a", "b", "abc", "xab", "abab", "ba", "ab ", "AB"])
        self.check(Is(""), [""], ["a", " ", "~"])
        self.check(Is("a" * 20), ["a" * 20], ["a" * 19, "a" * 21, "", "a" * 19 + "b"])
        self.check_all([Is(line) for line in ["", *WORDS]])

    def test_only(self):
        self.check(Only("ab"), ["", "a", "b", "ab", "ba", "aab", "bbbb"], ["c", "abc", "cab", "acb", " ", "A", "a~"])
        self.check(Only(""), [""], ["a", " ", "~", "ab"])
        self.check(Only(" ~"), ["", " ", "~", "~ ~"], ["a", "~a~", "!"])
        self.check(Only(LETTERS), ["", LETTERS, "a" * 10000], [])
        self.check(Only(LETTERS[1:]), ["", LETTERS[1:]], [" ", LETTERS])
        self.check_all([Only(letters) for letters in ("", "a", "b", "ab", "ba", "~", "ab~", "xyz")])

    def test_fails(self):
        self.check(Fails(Has("ab")), ["", "a", "ba", "xyz", "~"], ["ab", "xab", "aby", "xaby", "aab"])
        self.check(Fails(Fails(Ends("a"))), ["a", "ba"], ["", "ab"])
        self.check(Fails(Only("")), ["a", " "], [""])
        self.check_all([Fails(test) for test in some_tests()])

    def test_both(self):
        self.check(Both(Begins("ab"), Ends("ba")), ["aba", "abba", "ab~ba"], ["", "ab", "ba", "aab", "bab", "~"])
        self.check(Both(Has("a"), Fails(Ends("a"))), ["ab", "aab"], ["", "a", "ba", "b"])
        self.check(Both(Is("a"), Is("b")), [], ["", "a", "b", "ab"])
        self.check_all([Both(one, other) for one in some_tests() for other in some_tests()], lines_of("ab~", 3))

    def test_either(self):
        self.check(Either(Begins("ab"), Ends("ba")), ["ab", "ba", "abc", "xba", "aba"], ["", "a", "b", "xaby", "~"])
        self.check(Either(Is(""), Has("a")), ["", "a", "xa"], ["b", " ", "~"])
        self.check(Either(Is("a"), Is("a")), ["a"], ["", "b", "aa"])
        self.check_all([Either(one, other) for one in some_tests() for other in some_tests()], lines_of("ab~", 3))

    def test_tests_within_one_another(self):
        deep = Has("a")
        for many in range(7):
            deep = Fails(deep)
            self.check(deep, ["", "b"] if many % 2 == 0 else ["a", "ba"], ["a", "ba"] if many % 2 == 0 else ["", "b"])
        wide = Either(Both(Begins("a"), Fails(Has("bb"))), Fails(Either(Only("ab"), Is("~"))))
        self.check(wide, ["a", "ab", "aba", "b~", "a~", "~~"], ["", "b", "abb", "bb", "~"])
        self.check_all([wide, Fails(wide), Both(wide, Fails(Ends("~"))), Either(Is(""), wide)])

    def test_the_examples_of_the_document(self):
        self.assertEqual(
            [Both(Has("a"), Fails(Ends("a"))).holds("ab"), Only("").holds("")], [True, True])

    def test_the_same_again(self):
        for test, same in zip(some_tests(), some_tests()):
            for line in ("", "a", "b", "ab", "~"):
                before = test.holds(line)
                self.assertIs(test.holds(line), before)
                self.assertIs(same.holds(line), before)
            self.assertTrue(test == same)


if __name__ == "__main__":
    unittest.main()
