"""The sets of the lines of which tests hold, as rows."""

from linestream.conditions import Begins, Both, Either, Fails, Has, Is, Only
from linestream.pairs import BOTH, EITHER, ONLY, made_of
from linestream.rows import ALL, ALL_LINES, bit_of, least_rows, mask_of


def longest_end(word, line):
    """The number of letters of the longest end of a line with which a word begins."""
    many = min(len(word), len(line))
    while not word.startswith(line[len(line) - many:]):
        many -= 1
    return many


def chain(line, behind):
    """The rows of the line, its last state with the moves behind."""
    steps = [(False, ((bit_of(letter), at + 1),)) for at, letter in enumerate(line)]
    return tuple([*steps, (True, behind)])


def search(word, at):
    """The moves of a state in which so many letters of a word, the last ones of what was read, have been met."""
    letters = sorted(set(word))
    found = [(bit_of(letter), longest_end(word, word[:at] + letter)) for letter in letters]
    return (*found, (ALL & ~mask_of(letters), 0))


def rows_of_simple(test):
    """Rows for a Has, Begins, Is or Only, or an Ends, which is what is left."""
    if isinstance(test, Is):
        return chain(test.line, ())
    if isinstance(test, Only):
        mask = mask_of(test.letters)
        return ((True, ((mask, 0),) if mask else ()),)
    word = test.word
    if isinstance(test, Begins):
        return chain(word, ((ALL, len(word)),))
    looking = [(False, search(word, at)) for at in range(len(word))]
    if isinstance(test, Has):
        return tuple([*looking, (True, ((ALL, len(word)),))])
    return tuple([*looking, (True, search(word, len(word)))])


def rows_of_test(test):
    """The least rows of the lines of which a test holds."""
    if isinstance(test, Fails):
        return made_of(ALL_LINES, rows_of_test(test.test), ONLY)
    if isinstance(test, Both):
        return made_of(rows_of_test(test.one), rows_of_test(test.other), BOTH)
    if isinstance(test, Either):
        return made_of(rows_of_test(test.one), rows_of_test(test.other), EITHER)
    return least_rows(rows_of_simple(test))


def rows_of_lines(lines):
    """The least rows of these lines."""
    moves = {}
    places = {}
    ends = {}
    for line in lines:
        state = 0
        for letter in line:
            if (state, letter) not in places:
                places[(state, letter)] = len(places) + 1
                moves[state] = moves.get(state, ()) + ((bit_of(letter), len(places)),)
            state = places[(state, letter)]
        ends[state] = True
    return least_rows(tuple([(state in ends, moves.get(state, ())) for state in range(len(places) + 1)]))
