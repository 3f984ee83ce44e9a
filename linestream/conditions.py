"""Tests of lines."""

from linestream.errors import InvalidTest
from linestream.limits import MAX_DEPTH, MAX_LINE
from linestream.lines import are_different, is_line, is_short_word

# Has, Begins, Ends, Is and Only in all, that one test may have.
MOST_SIMPLE = 8


class Test:
    """What all tests are below; an object of this class itself is no test."""

    def holds(self, line):
        raise NotImplementedError("only the classes below Test tell whether they hold")


class Has(Test):
    """The word stands somewhere in the line."""

    def __init__(self, word):
        check_word(word)
        self._word = word

    @property
    def word(self):
        return self._word

    def holds(self, line):
        return self._word in line

    def __eq__(self, other):
        return isinstance(other, Has) and self._word == other._word


class Begins(Test):
    """The word stands at the beginning of the line."""

    def __init__(self, word):
        check_word(word)
        self._word = word

    @property
    def word(self):
        return self._word

    def holds(self, line):
        return line.startswith(self._word)

    def __eq__(self, other):
        return isinstance(other, Begins) and self._word == other._word


class Ends(Test):
    """The word stands at the end of the line."""

    def __init__(self, word):
        check_word(word)
        self._word = word

    @property
    def word(self):
        return self._word

    def holds(self, line):
        return line.endswith(self._word)

    def __eq__(self, other):
        return isinstance(other, Ends) and self._word == other._word


class Is(Test):
    """It is this line."""

    def __init__(self, line):
        if not is_line(line) or len(line) > MAX_LINE:
            raise InvalidTest("line")
        self._line = line

    @property
    def line(self):
        return self._line

    def holds(self, line):
        return line == self._line

    def __eq__(self, other):
        return isinstance(other, Is) and self._line == other._line


class Only(Test):
    """Each letter of the line is one of these letters."""

    def __init__(self, letters):
        if not is_line(letters) or not are_different(letters):
            raise InvalidTest("letters")
        self._letters = letters

    @property
    def letters(self):
        return self._letters

    def holds(self, line):
        return all([letter in self._letters for letter in line])

    def __eq__(self, other):
        return isinstance(other, Only) and self._letters == other._letters


class Fails(Test):
    """The test does not hold."""

    def __init__(self, test):
        if not fits_within(test):
            raise InvalidTest("test")
        self._test = test

    @property
    def test(self):
        return self._test

    def holds(self, line):
        return not self._test.holds(line)

    def __eq__(self, other):
        return isinstance(other, Fails) and self._test == other._test


class Both(Test):
    """Both tests hold."""

    def __init__(self, one, other):
        check_pair(one, other)
        self._one = one
        self._other = other

    @property
    def one(self):
        return self._one

    @property
    def other(self):
        return self._other

    def holds(self, line):
        return self._one.holds(line) and self._other.holds(line)

    def __eq__(self, other):
        return isinstance(other, Both) and self._one == other._one and self._other == other._other


class Either(Test):
    """At least one of both tests holds."""

    def __init__(self, one, other):
        check_pair(one, other)
        self._one = one
        self._other = other

    @property
    def one(self):
        return self._one

    @property
    def other(self):
        return self._other

    def holds(self, line):
        return self._one.holds(line) or self._other.holds(line)

    def __eq__(self, other):
        return isinstance(other, Either) and self._one == other._one and self._other == other._other


def is_test(value):
    """Whether any value is a test."""
    # Not isinstance(value, Test): Test() is an object of the package, too, and no test.
    return isinstance(value, (Has, Begins, Ends, Is, Only, Fails, Both, Either))


def parts(test):
    """The tests that stand directly within a test, from left to right."""
    if isinstance(test, Fails):
        return (test.test,)
    if isinstance(test, (Both, Either)):
        return (test.one, test.other)
    return ()


def depth_of(test):
    """How many tests stand within one another in a test, itself counted."""
    return 1 + max([depth_of(part) for part in parts(test)], default=0)


def simple_tests(test):
    """The tests of a test that have none within them, from left to right, as often as they stand there."""
    inner = parts(test)
    if not inner:
        return [test]
    return [simple for part in inner for simple in simple_tests(part)]


def fits_within(value):
    """Whether any value is a test that may stand within one more test."""
    return is_test(value) and depth_of(value) < MAX_DEPTH


def fit_together(one, other):
    """Whether two tests have few enough simple ones to stand within one test."""
    return len(simple_tests(one)) + len(simple_tests(other)) <= MOST_SIMPLE


def check_word(word):
    if not is_short_word(word):
        raise InvalidTest("word")


def check_pair(one, other):
    if not fits_within(one):
        raise InvalidTest("one")
    if not fits_within(other) or not fit_together(one, other):
        raise InvalidTest("other")
