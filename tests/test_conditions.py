"""[10], [2]: the arguments of tests, their properties, and equality."""

import copy
import unittest

from linestream.conditions import Begins, Both, Either, Ends, Fails, Has, Is, Only, Test
from linestream.errors import InvalidTest
from tests.samples import LETTERS, no_lines, no_strings, some_tests, strangers

WORD_TESTS = (Has, Begins, Ends)
PAIR_TESTS = (Both, Either)
ALL_TESTS = (Has, Begins, Ends, Is, Only, Fails, Both, Either)


def fails(many, test):
    """A test within so many Fails."""
    for _ in range(many):
        test = Fails(test)
    return test


def wide(many, pair=Both, simple=Has):
    """A test with so many simple tests, at most 5 deep."""
    if many == 1:
        return simple("a")
    return pair(wide(many // 2, pair, simple), wide(many - many // 2, pair, simple))


class CheckedTest(unittest.TestCase):
    def assert_invalid(self, argument, make, *values, **named):
        with self.assertRaises(InvalidTest) as caught:
            make(*values, **named)
        self.assertIs(type(caught.exception), InvalidTest)
        self.assertEqual(caught.exception.argument, argument)


class ArgumentsTest(CheckedTest):
    def test_words(self):
        for kind in WORD_TESTS:
            for length in range(1, 9):
                self.assertEqual(kind("a" * length).word, "a" * length)
                self.assertEqual(kind(LETTERS[:length]).word, LETTERS[:length])
                self.assertEqual(kind(LETTERS[-length:]).word, LETTERS[-length:])
            for word in ("", "a" * 9, "a" * 20, "a" * 100000):
                with self.subTest(kind=kind.__name__, length=len(word)):
                    self.assert_invalid("word", kind, word)
                    self.assert_invalid("word", kind, word=word)

    def test_line_of_is(self):
        for length in range(21):
            self.assertEqual(Is("~" * length).line, "~" * length)
        for length in (21, 22, 100000):
            self.assert_invalid("line", Is, "a" * length)
            self.assert_invalid("line", Is, line="a" * length)

    def test_letters_of_only(self):
        for letters in ("", "a", "ab", "ba", " ~", LETTERS, LETTERS[::-1]):
            self.assertEqual(Only(letters).letters, letters)
        for letters in ("aa", "aba", "abb", "  ", "~a~", LETTERS + "a", LETTERS + LETTERS, "a" * 100000):
            self.assert_invalid("letters", Only, letters)
            self.assert_invalid("letters", Only, letters=letters)

    def test_each_letter(self):
        for letter in LETTERS:
            self.assertEqual([kind(letter).word for kind in WORD_TESTS], [letter] * 3)
            self.assertEqual([Is(letter).line, Only(letter).letters], [letter] * 2)

    def test_each_other_character(self):
        for code in [*range(32), 37, *range(127, 0x250), 0x2028, 0xd800, 0x10ffff]:
            for value in (chr(code), "a" + chr(code), chr(code) + "a"):
                for kind in WORD_TESTS:
                    self.assert_invalid("word", kind, value)
                self.assert_invalid("line", Is, value)
                self.assert_invalid("letters", Only, value)

    def test_values_of_any_kind(self):
        for value in no_strings() + no_lines() + strangers() + some_tests():
            with self.subTest(value=value):
                for kind in WORD_TESTS:
                    self.assert_invalid("word", kind, value)
                self.assert_invalid("line", Is, value)
                self.assert_invalid("letters", Only, value)

    def test_values_of_any_kind_as_tests(self):
        for value in no_strings() + no_lines() + strangers() + ["", "a", "ab", 'has "a"']:
            with self.subTest(value=value):
                self.assert_invalid("test", Fails, value)
                self.assert_invalid("test", Fails, test=value)
                for kind in PAIR_TESTS:
                    self.assert_invalid("one", kind, value, Has("a"))
                    self.assert_invalid("other", kind, Has("a"), value)
                    self.assert_invalid("other", kind, other=value, one=Has("a"))
                    self.assert_invalid("one", kind, value, value)
                    self.assert_invalid("one", kind, other=value, one=value)
                    self.assert_invalid("one", kind, value, "a")
                    self.assert_invalid("one", kind, None, value)

    def test_wrong_arguments_stay(self):
        for value in ([], ["a"], {"a": ["b"]}, (["a"],)):
            before = copy.deepcopy(value)
            self.assert_invalid("word", Has, value)
            self.assert_invalid("letters", Only, value)
            self.assert_invalid("one", Both, value, value)
            self.assertEqual(value, before)


class DepthTest(CheckedTest):
    def test_eight_fails(self):
        for simple in (Has("a"), Begins("a"), Ends("a"), Is(""), Only("")):
            self.assertIs(fails(7, simple).holds("b"), not simple.holds("b"))
            self.assert_invalid("test", Fails, fails(7, simple))

    def test_eight_in_pairs(self):
        for kind in PAIR_TESTS:
            self.assertEqual(kind(fails(6, Has("a")), Has("b")).one, fails(6, Has("a")))
            self.assertEqual(kind(Has("b"), fails(6, Has("a"))).other, fails(6, Has("a")))
            self.assertEqual(kind(fails(6, Has("a")), fails(6, Has("b"))).other, fails(6, Has("b")))
            self.assert_invalid("one", kind, fails(7, Has("a")), Has("b"))
            self.assert_invalid("other", kind, Has("b"), fails(7, Has("a")))
            self.assert_invalid("one", kind, fails(7, Has("a")), fails(7, Has("a")))

    def test_the_deeper_one_counts(self):
        for kind in PAIR_TESTS:
            for deep in (kind(Has("a"), fails(6, Has("a"))), kind(fails(6, Has("a")), Has("a"))):
                self.assert_invalid("test", Fails, deep)
                self.assert_invalid("one", kind, deep, Has("a"))
                self.assert_invalid("other", kind, Has("a"), deep)
            for less in (kind(Has("a"), fails(5, Has("a"))), kind(fails(5, Has("a")), Has("a"))):
                self.assertEqual(Fails(less).test, less)
                self.assert_invalid("test", Fails, Fails(less))

    def test_pairs_within_one_another(self):
        for kind in PAIR_TESTS:
            left = right = Has("a")
            for _ in range(7):
                left, right = kind(left, Has("b")), kind(Has("b"), right)
            self.assert_invalid("test", Fails, left)
            self.assert_invalid("test", Fails, right)
            self.assert_invalid("one", kind, left, Has("b"))
            self.assert_invalid("other", kind, Has("b"), right)


class ManyTest(CheckedTest):
    def test_eight_in_all(self):
        for kind in PAIR_TESTS:
            for simple in (Has, Begins, Ends, Is, Only):
                for many in range(1, 8):
                    one, other = wide(many, kind, simple), wide(8 - many, kind, simple)
                    self.assertEqual([kind(one, other).one, kind(one, other).other], [one, other])
                    self.assert_invalid("other", kind, one, wide(9 - many, kind, simple))
                self.assert_invalid("other", kind, wide(8, kind, simple), simple("a"))
                self.assert_invalid("other", kind, simple("a"), wide(8, kind, simple))
                self.assert_invalid("other", kind, wide(8, kind, simple), wide(8, kind, simple))

    def test_those_within_fails_count(self):
        for kind in PAIR_TESTS:
            self.assertEqual(Fails(wide(8, kind)).test, wide(8, kind))
            self.assertEqual(kind(Fails(wide(4)), Fails(wide(4))).one, Fails(wide(4)))
            self.assert_invalid("other", kind, Fails(wide(4)), Fails(wide(5)))
            self.assert_invalid("other", kind, Fails(wide(8)), Has("a"))

    def test_unlike_ones_count_together(self):
        five = Both(Either(Has("a"), Begins("b")), Both(Either(Ends("c"), Is("d")), Only("e")))
        three = Either(Fails(Is("")), Both(Only(""), Ends("z")))
        for kind in PAIR_TESTS:
            self.assertEqual(kind(five, three).one, five)
            self.assertEqual(kind(three, five).other, five)
            self.assert_invalid("other", kind, five, Both(three, Has("a")))
            self.assert_invalid("other", kind, Both(three, Has("a")), five)

    def test_the_same_object_counts_each_time(self):
        test = Has("a")
        for kind in PAIR_TESTS:
            four = kind(kind(test, test), kind(test, test))
            eight = kind(four, four)
            self.assertIs(eight.holds("a"), True)
            self.assert_invalid("other", kind, eight, test)
            self.assert_invalid("other", kind, eight, eight)

    def test_too_deep_ahead_of_too_many(self):
        deep = Both(wide(4), fails(6, Has("a")))
        for kind in PAIR_TESTS:
            self.assert_invalid("one", kind, deep, wide(8))
            self.assert_invalid("one", kind, deep, deep)
            self.assert_invalid("other", kind, wide(8), deep)
            self.assert_invalid("one", kind, deep, None)


class PropertiesTest(CheckedTest):
    def test_by_position_and_by_name(self):
        for kind in WORD_TESTS:
            self.assertEqual(kind(word="ab").word, "ab")
            self.assertTrue(kind(word="ab") == kind("ab"))
        self.assertEqual(Is(line="ab").line, "ab")
        self.assertTrue(Is(line="ab") == Is("ab"))
        self.assertEqual(Only(letters="ba").letters, "ba")
        self.assertTrue(Only(letters="ba") == Only("ba"))
        self.assertEqual(Fails(test=Has("a")).test, Has("a"))
        self.assertTrue(Fails(test=Has("a")) == Fails(Has("a")))
        for kind in PAIR_TESTS:
            test = kind(other=Has("b"), one=Is("a"))
            self.assertEqual([test.one, test.other], [Is("a"), Has("b")])
            self.assertTrue(test == kind(Is("a"), Has("b")))
            self.assertTrue(test == kind(Is("a"), other=Has("b")))

    def test_strings_are_strings(self):
        for value in (Has("a").word, Begins("a").word, Ends("a").word, Is("").line, Only("").letters):
            self.assertIs(type(value), str)

    def test_they_are_not_assigned(self):
        for test, names in ((Has("a"), ["word"]), (Begins("a"), ["word"]), (Ends("a"), ["word"]), (Is("a"), ["line"]),
                            (Only("a"), ["letters"]), (Fails(Has("a")), ["test"]),
                            (Both(Has("a"), Is("b")), ["one", "other"]), (Either(Has("a"), Is("b")), ["one", "other"])):
            for name in names:
                with self.subTest(test=type(test).__name__, name=name):
                    self.assertIsInstance(getattr(type(test), name), property)
                    before = getattr(test, name)
                    self.assertRaises(AttributeError, setattr, test, name, "c")
                    self.assertEqual(getattr(test, name), before)

    def test_below_test(self):
        for kind in ALL_TESTS:
            self.assertTrue(issubclass(kind, Test))
            for other in ALL_TESTS:
                self.assertIs(issubclass(kind, other), kind is other)

    def test_methods_stand_in_each_class(self):
        for kind in ALL_TESTS:
            for name in ("__init__", "holds", "__eq__"):
                self.assertIn(name, vars(kind))


class EqualityTest(unittest.TestCase):
    def test_equal_and_unequal_tests(self):
        for at, one in enumerate(some_tests()):
            for place, other in enumerate(some_tests()):
                with self.subTest(one=at, other=place):
                    self.assertIs(one == other, at == place)
                    self.assertIs(one != other, at != place)

    def test_another_class_with_equal_properties(self):
        groups = [
            [kind("a") for kind in (Has, Begins, Ends, Is, Only)],
            [kind(Has("a"), Is("a")) for kind in PAIR_TESTS],
            [Fails(kind("a")) for kind in (Has, Begins, Ends, Is, Only)],
        ]
        for group in groups:
            for at, one in enumerate(group):
                for place, other in enumerate(group):
                    self.assertIs(one == other, at == place)
                    self.assertIs(one != other, at != place)

    def test_tests_that_hold_of_the_same_lines(self):
        for one, other in ((Only("ab"), Only("ba")), (Is(""), Only("")), (Has("a"), Fails(Fails(Has("a")))),
                           (Both(Has("a"), Has("b")), Both(Has("b"), Has("a"))), (Has("a"), Both(Has("a"), Has("a")))):
            self.assertIs(one == other, False)
            self.assertIs(one != other, True)

    def test_values_of_another_kind(self):
        for test in some_tests():
            for value in no_strings() + strangers() + ["", "a", "ab", ("a",), object(), Has, Test]:
                self.assertIs(test == value, False)
                self.assertIs(value == test, False)
                self.assertIs(test != value, True)
                self.assertIs(value != test, True)

    def test_deep_tests(self):
        self.assertIs(fails(7, Has("a")) == fails(7, Has("a")), True)
        self.assertIs(fails(7, Has("a")) == fails(7, Has("b")), False)
        self.assertIs(fails(7, Has("a")) == fails(6, Has("a")), False)
        self.assertIs(wide(8) == wide(8), True)
        self.assertIs(wide(8) == wide(8, Either), False)
        self.assertIs(wide(8) != wide(7), True)

    def test_within_lists(self):
        self.assertEqual([Has("a"), (Is("b"),)], [Has("a"), (Is("b"),)])
        self.assertIn(Has("a"), [Begins("a"), Has("a")])
        self.assertNotIn(Has("a"), [Begins("a"), Has("b"), None, "a"])


if __name__ == "__main__":
    unittest.main()
