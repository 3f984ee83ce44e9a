"""What changes make of all lines of a set, which rows tell."""

from linestream.changes import done_all
from linestream.rows import (
    ALL, NOWHERE, after_line, bit_of, is_in_at, least_letter, least_rows, letters_of, mask_of, post_order)
from linestream.streams import ahead_of, begun, behind, gone_on, letters_named, put_in

# Stands for all letters that a change does not name; it is none of them, so it comes out as it is.
ANOTHER = "\n"


def rows_before(changes, rows):
    """The rows of the lines whose results are in a set."""
    for change in reversed(list(changes)):
        rows = rows_before_one(change, rows)
    return rows


def rows_before_one(change, rows):
    start = (0, after_line(rows, 0, ahead_of(change)))
    numbers = {start: 0}
    met = [start]
    found = []
    while len(found) < len(met):
        place = met[len(found)]
        moves = moves_before(change, rows, place)
        for _, target in moves:
            if target not in numbers:
                numbers[target] = len(met)
                met.append(target)
        is_in = is_in_at(rows, after_line(rows, place[1], behind(change, place[0])))
        found.append((is_in, tuple([(mask, numbers[target]) for mask, target in moves])))
    return least_rows(tuple(found))


def moves_before(change, rows, place):
    """The moves of a place (number of the change, state of the rows), to further places."""
    state, index = place
    named = letters_of(mask_of(letters_named([change])))
    found = []
    for letter in named:
        number, line = put_in(change, state, letter)
        found.append((bit_of(letter), (number, after_line(rows, index, line))))
    number, line = put_in(change, state, ANOTHER)
    between = after_line(rows, index, line[:len(line) - 1])
    if between != NOWHERE:
        others = ALL & ~mask_of(named)
        found = found + [(mask & others, (number, target)) for mask, target in rows[between][1] if mask & others]
    return [(mask, target) for mask, target in found if target[1] != NOWHERE]


def some_letters(moves, named):
    """Letters of moves, ascending, with the states behind them: those that are named, and of all others of a move the
    least one, as changes that do not name them treat them alike."""
    found = []
    for mask, index in moves:
        letters = letters_of(mask & named)
        if mask & ~named:
            letters = letters + least_letter(mask & ~named)
        found.extend([(letter, index) for letter in letters])
    return sorted(found)


def search_parted(changes, others, rows):
    """The first line of a set for which two lists of changes have unlike results, None if there is none."""
    named = mask_of(letters_named([*changes, *others]))
    met = [("", 0, both_begun(changes, others))]
    is_met = {}
    at = 0
    while at < len(met):
        line, index, stand = met[at]
        if rows[index][0] and done_all(changes, line) != done_all(others, line):
            return line
        for letter, target in some_letters(rows[index][1], named):
            key = (target, both_gone_on(changes, others, stand, letter))
            if key not in is_met:
                is_met[key] = True
                met.append((line + letter, *key))
        at += 1
    return None


def both_begun(changes, others):
    """Where two lists of changes stand before a letter is put in."""
    states, ahead = begun(changes)
    places, beyond = begun(others)
    return both_at(states, places, ahead, beyond)


def both_gone_on(changes, others, stand, letter):
    """Where two lists of changes stand behind one more letter."""
    if stand is None:
        return None
    states, line = gone_on(changes, stand[0], letter)
    places, further = gone_on(others, stand[1], letter)
    return both_at(states, places, stand[2] + line, stand[3] + further)


def both_at(states, places, ahead, beyond):
    """The numbers of both lists, and what one has put out more than the other; None if what both have put out is
    unlike, so that it stays so whatever letters follow."""
    many = min(len(ahead), len(beyond))
    if ahead[:many] != beyond[:many]:
        return None
    return (states, places, ahead[many:], beyond[many:])


def is_endless(changes, rows):
    """Whether the results of the lines of a set are infinitely many: a loop puts something out."""
    graph = graph_of(changes, rows)
    loops = loops_of(graph)
    return any([is_putting and loops[state] == loops[index]
                for state, row in enumerate(graph) for is_putting, index in row[1]])


def graph_of(changes, rows):
    """What changes do with the lines of a set: rows whose moves tell, instead of letters, whether something comes
    out. Whether a line is in the set does not matter here."""
    named = mask_of(letters_named(changes))
    start = (0, begun(changes)[0])
    numbers = {start: 0}
    met = [start]
    graph = []
    while len(graph) < len(met):
        index, states = met[len(graph)]
        moves = {}
        for letter, further in some_letters(rows[index][1], named):
            places, line = gone_on(changes, states, letter)
            target = (further, places)
            if target not in numbers:
                numbers[target] = len(met)
                met.append(target)
            moves[(line != "", numbers[target])] = True
        graph.append((False, tuple(moves)))
    return graph


def loops_of(graph):
    """A dict from states to numbers: equal ones for states that lead to one another."""
    order = post_order(graph)
    sources = {}
    for state in order:
        for _, index in graph[state][1]:
            sources[index] = sources.get(index, ()) + (state,)
    loops = {}
    for first in reversed(order):
        path = [first] if first not in loops else []
        while path:
            state = path.pop()
            if state not in loops:
                loops[state] = first
                path.extend(sources.get(state, ()))
    return loops
