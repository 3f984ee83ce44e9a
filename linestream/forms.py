"""The form in which scripts, commands and rows of a desk are written, as far as it hangs on no values.

What is read is a tuple: a word, and what stands behind it. A command is a tuple (word, argument, address), argument
None, a line, an integer or a change; address None if there is none.
"""

from linestream.errors import Unreadable
from linestream.limits import MAX_DEPTH
from linestream.values import common

QUOTE = '"'
BACKSLASH = "\\"
MOST_DIGITS = 31
MOST_NAME = 8

SIMPLE_TESTS = ("has", "begins", "ends", "is", "only")
TESTS = ("has", "begins", "ends", "is", "only", "fails", "both", "either")
CHANGES = ("first", "every", "swap", "front", "behind")
SIMPLE_ADDRESSES = ("any", "number", "each", "last", "if", "changed", "kept")
ADDRESSES = ("any", "number", "each", "last", "if", "changed", "kept", "not", "range")
# Any() is what is not written.
WRITTEN = ("number", "each", "last", "if", "changed", "kept", "not", "range")
COMMANDS = ("change", "print", "printfirst", "tell", "later", "keep", "put", "putfirst", "forget", "forgetfirst",
            "read", "skip", "drop", "slide", "stop", "leave")


def literal(line):
    """A line as it is written."""
    return QUOTE + line.replace(BACKSLASH, BACKSLASH + BACKSLASH).replace(QUOTE, BACKSLASH + QUOTE) + QUOTE


class Reader:
    """Reads a line from left to right; raises Unreadable at the first letter that cannot stand."""

    def __init__(self, index, line):
        self._index = index
        self._whole = line
        self._at = 0

    def is_at_end(self):
        return self._at == len(self._whole)

    def letter(self):
        """The letter that is come to."""
        if self.is_at_end():
            raise Unreadable(self._index, self._at)
        return self._whole[self._at]

    def must_be(self, letter):
        if self.letter() != letter:
            raise Unreadable(self._index, self._at)
        self._at += 1

    def gap(self):
        self.must_be(" ")

    def finish(self):
        """Nothing more may stand there."""
        if not self.is_at_end():
            raise Unreadable(self._index, self._at)

    def piece(self, start):
        """What stands from a place up to the next space."""
        end = self._whole.find(" ", start)
        return self._whole[start:] if end < 0 else self._whole[start:end]

    def is_behind(self, words):
        """Whether one of some words stands behind the next space."""
        return self.piece(self._at) == "" and self.piece(self._at + 1) in words

    def take_word(self, words):
        """Reads one of some words."""
        found = self.piece(self._at)
        if found not in words:
            raise Unreadable(self._index, self._at + max([common(found, each) for each in words]))
        self._at += len(found)
        return found

    def take_literal(self):
        self.must_be(QUOTE)
        letters = []
        while self.letter() != QUOTE:
            if self.letter() == BACKSLASH:
                self._at += 1
                if self.letter() not in (QUOTE, BACKSLASH):
                    raise Unreadable(self._index, self._at)
            letters.append(self.letter())
            self._at += 1
        self._at += 1
        return "".join(letters)

    def take_number(self):
        if not self.letter().isdigit():
            raise Unreadable(self._index, self._at)
        start = self._at
        self._at += 1
        while (self._whole[start] != "0" and self._at - start < MOST_DIGITS and not self.is_at_end()
               and self.letter().isdigit()):
            self._at += 1
        return int(self._whole[start:self._at])

    def take_name(self):
        """Reads a name of a desk."""
        found = self.piece(self._at)
        if not 1 <= len(found) <= MOST_NAME or not all(["a" <= letter <= "z" for letter in found]):
            raise Unreadable(self._index, self._at)
        self._at += len(found)
        return found

    def take_test(self, depth):
        """Reads a test that stands within so many, itself counted."""
        return self.take_rest_of_test(self.take_word(tests_at(depth)), depth)

    def take_rest_of_test(self, word, depth):
        """Reads what stands behind the word of a test."""
        self.gap()
        if word in SIMPLE_TESTS:
            return (word, self.take_literal())
        one = self.take_test(depth + 1)
        if word == "fails":
            return (word, one)
        self.gap()
        return (word, one, self.take_test(depth + 1))

    def take_change(self):
        word = self.take_word(CHANGES)
        self.gap()
        one = self.take_literal()
        if word in ("front", "behind"):
            return (word, one)
        self.gap()
        return (word, one, self.take_literal())

    def take_address(self, words, depth, further):
        """Reads an address with one of some words, that stands within so many addresses. Behind it one of some further
        words may stand."""
        word = self.take_word(words)
        if word == "kept":
            return self.take_kept(further)
        if word in ("any", "last", "changed"):
            return (word,)
        self.gap()
        if word in ("number", "count"):
            return (word, self.take_number())
        if word == "if":
            return (word, self.take_test(1))
        if word == "not":
            return (word, self.take_address(addresses_at(depth + 1), depth + 1, further))
        if word == "range":
            return self.take_range(depth + 1, further)
        step = self.take_number()
        self.gap()
        return (word, step, self.take_number())

    def take_kept(self, further):
        if self.is_at_end() or self.is_behind(further):
            return ("kept", None)
        self.gap()
        return ("kept", self.take_rest_of_test(self.take_word((*TESTS, *further)), 1))

    def take_range(self, depth, further):
        """Reads what stands behind the word of a Range, whose addresses stand within so many."""
        words = addresses_at(depth)
        start = self.take_address(words, depth, ("count", *words))
        self.gap()
        return ("range", start, self.take_address(("count", *words), depth, further))

    def take_command(self, further):
        """Reads a command, behind which one of some further words may stand."""
        word = self.take_word(COMMANDS)
        argument = None
        if word in ("change", "tell", "later", "skip"):
            self.gap()
            argument = self.take_argument(word)
        if self.is_at_end() or self.is_behind(further):
            return (word, argument, None)
        self.gap()
        self.take_word(("at", *further))
        self.gap()
        return (word, argument, self.take_address(WRITTEN, 1, further))

    def take_argument(self, word):
        if word == "change":
            return self.take_change()
        return self.take_number() if word == "skip" else self.take_literal()

    def take_head(self, further):
        """Reads the rooms, and whether a script is quiet: a tuple (window, store, is_quiet)."""
        self.take_word(("window",))
        self.gap()
        window = self.take_number()
        self.gap()
        self.take_word(("store",))
        self.gap()
        store = self.take_number()
        if self.is_at_end() or self.is_behind(further):
            return (window, store, False)
        self.gap()
        self.take_word(("quiet", *further))
        return (window, store, True)


def tests_at(depth):
    """The words of the tests that may stand within so many, themselves counted."""
    return SIMPLE_TESTS if depth == MAX_DEPTH else TESTS


def addresses_at(depth):
    """The words of the addresses that may stand within so many, themselves counted."""
    return SIMPLE_ADDRESSES if depth == MAX_DEPTH else ADDRESSES
