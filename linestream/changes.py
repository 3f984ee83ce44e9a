"""Changes of lines."""

from linestream.errors import InvalidChange
from linestream.limits import MAX_WORD
from linestream.lines import are_different, is_line, is_short_word, is_word


def places(line, word):
    """The indexes at which a word begins in a line, ascending."""
    return [at for at in range(len(line) - len(word) + 1) if line.startswith(word, at)]


class LineChange:
    """What all changes are below; an object of this class itself is no change."""

    def done(self, line):
        raise NotImplementedError("only the classes below LineChange change lines")

    def has_place(self, line):
        raise NotImplementedError("only the classes below LineChange have places")


class First(LineChange):
    """New is put at the first place of old."""

    def __init__(self, old, new):
        check_pair(old, new)
        self._old = old
        self._new = new

    @property
    def old(self):
        return self._old

    @property
    def new(self):
        return self._new

    def done(self, line):
        return line.replace(self._old, self._new, 1)

    def has_place(self, line):
        return self._old in line

    def __eq__(self, other):
        return isinstance(other, First) and self._old == other._old and self._new == other._new


class Every(LineChange):
    """From left to right, new is put at each place of old that does not overlap one at which it was put."""

    def __init__(self, old, new):
        check_pair(old, new)
        self._old = old
        self._new = new

    @property
    def old(self):
        return self._old

    @property
    def new(self):
        return self._new

    def done(self, line):
        return line.replace(self._old, self._new)

    def has_place(self, line):
        return self._old in line

    def __eq__(self, other):
        return isinstance(other, Every) and self._old == other._old and self._new == other._new


class Swap(LineChange):
    """Each letter that stands in letters becomes the one with its index in others."""

    def __init__(self, letters, others):
        if not is_word(letters) or not are_different(letters):
            raise InvalidChange("letters")
        if not is_line(others) or len(others) != len(letters):
            raise InvalidChange("others")
        self._letters = letters
        self._others = others

    @property
    def letters(self):
        return self._letters

    @property
    def others(self):
        return self._others

    def done(self, line):
        becomes = dict(zip(self._letters, self._others))
        return "".join([becomes.get(letter, letter) for letter in line])

    def has_place(self, line):
        return True

    def __eq__(self, other):
        return isinstance(other, Swap) and self._letters == other._letters and self._others == other._others


class Front(LineChange):
    """The word is put ahead of the line."""

    def __init__(self, word):
        check_word(word)
        self._word = word

    @property
    def word(self):
        return self._word

    def done(self, line):
        return self._word + line

    def has_place(self, line):
        return True

    def __eq__(self, other):
        return isinstance(other, Front) and self._word == other._word


class Behind(LineChange):
    """The word is put behind the line."""

    def __init__(self, word):
        check_word(word)
        self._word = word

    @property
    def word(self):
        return self._word

    def done(self, line):
        return line + self._word

    def has_place(self, line):
        return True

    def __eq__(self, other):
        return isinstance(other, Behind) and self._word == other._word


def done_all(changes, line):
    """The line behind a list of changes, one after the other."""
    for change in changes:
        line = change.done(line)
    return line


def is_change(value):
    """Whether any value is a change."""
    # Not isinstance(value, LineChange): LineChange() is an object of the package, too, and no change.
    return isinstance(value, (First, Every, Swap, Front, Behind))


def check_pair(old, new):
    if not is_short_word(old):
        raise InvalidChange("old")
    if not is_line(new) or len(new) > MAX_WORD:
        raise InvalidChange("new")


def check_word(word):
    if not is_short_word(word):
        raise InvalidChange("word")
