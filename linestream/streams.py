"""Changes done letter by letter.

How far a change has come with a line is a number, 0 at first: of a First or an Every the number of letters that are
held back, as old may begin with them; DONE behind the place of a First.
"""

from linestream.changes import Behind, Every, First, Front, Swap
from linestream.patterns import longest_end

DONE = -1


def ahead_of(change):
    """What comes out before a letter is put in."""
    return change.word if isinstance(change, Front) else ""


def behind(change, state):
    """What comes out behind the last letter."""
    if isinstance(change, Behind):
        return change.word
    if isinstance(change, (First, Every)) and state != DONE:
        return change.old[:state]
    return ""


def put_in(change, state, letter):
    """What a letter leads to: the number, and what comes out."""
    if isinstance(change, Swap):
        return state, change.done(letter)
    if isinstance(change, (Front, Behind)) or state == DONE:
        return state, letter
    read = change.old[:state] + letter
    many = longest_end(change.old, read)
    if many == len(change.old):
        return (DONE if isinstance(change, First) else 0), change.new
    return many, read[:len(read) - many]


def put_all_in(change, state, line):
    """What the letters of a line lead to: the number, and what comes out."""
    pieces = []
    for letter in line:
        state, piece = put_in(change, state, letter)
        pieces.append(piece)
    return state, "".join(pieces)


def begun(changes):
    """The numbers of a list of changes before a letter is put in, and what comes out until then."""
    states = []
    line = ""
    for change in changes:
        state, piece = put_all_in(change, 0, line)
        states.append(state)
        line = ahead_of(change) + piece
    return tuple(states), line


def gone_on(changes, states, letter):
    """What a letter leads to in a list of changes: the numbers, and what comes out."""
    behind_it = []
    line = letter
    for change, state in zip(changes, states):
        state, line = put_all_in(change, state, line)
        behind_it.append(state)
    return tuple(behind_it), line


def letters_named(changes):
    """The letters that changes name; they treat all others alike."""
    return "".join([line for change in changes for line in lines_named(change)])


def lines_named(change):
    if isinstance(change, Swap):
        return [change.letters, change.others]
    if isinstance(change, (First, Every)):
        return [change.old, change.new]
    return [change.word]
