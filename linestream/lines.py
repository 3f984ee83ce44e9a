"""Letters, lines and words, and the order of lines."""

from linestream.errors import InvalidText
from linestream.limits import MAX_WORD

FIRST_LETTER = 32
LAST_LETTER = 126
# The one character between them that is no letter; told by its number, as no string of the package may hold it.
PERCENT_SIGN = 37


def is_letter(character):
    """Whether a character is one of the 94 letters."""
    code = ord(character)
    return FIRST_LETTER <= code <= LAST_LETTER and code != PERCENT_SIGN


def is_line(value):
    """Whether any value is a line: a string of letters, perhaps empty."""
    return isinstance(value, str) and all([is_letter(character) for character in value])


def is_word(value):
    """Whether any value is a word: a line of one or more letters."""
    return is_line(value) and value != ""


def is_text(value):
    """Whether any value is a text: a list of lines, or a tuple of them."""
    return isinstance(value, (list, tuple)) and all([is_line(line) for line in value])


def check_text(value):
    if not is_text(value):
        raise InvalidText(value)


def is_short_word(value):
    """Whether any value is a word that tests and changes take."""
    return is_word(value) and len(value) <= MAX_WORD


def are_different(line):
    """Whether no letter stands twice in a line."""
    return len(set(line)) == len(line)


def line_order(line):
    """A key: the first one of some lines is the one with the least key."""
    return (len(line), line)


def first_line(lines):
    """The first one of one or more lines: of those with the fewest letters, the least."""
    return min(lines, key=line_order)
