"""Sets of lines made of two sets, as rows."""

from linestream.rows import NOWHERE, is_in_at, least_rows

# What is made of two sets: the lines of at least one of them, of both, of the first one only.
EITHER = "either"
BOTH = "both"
ONLY = "only"


def moves_at(rows, state):
    return () if state == NOWHERE else rows[state][1]


def moves_of_pair(one, other, pair, kind):
    """The moves of a pair of states: a list of tuples (mask, pair). Pairs from which no line of this kind can come are
    left out."""
    firsts = moves_at(one, pair[0])
    seconds = moves_at(other, pair[1])
    found = [(mask & more, (index, place)) for mask, index in firsts for more, place in seconds if mask & more]
    if kind != BOTH:
        found = found + [(mask, (index, NOWHERE)) for mask, index in left_over(firsts, seconds)]
    if kind == EITHER:
        found = found + [(mask, (NOWHERE, index)) for mask, index in left_over(seconds, firsts)]
    return found


def left_over(moves, others):
    """The moves with the letters of which no other move is made."""
    taken = 0
    for mask, _ in others:
        taken = taken | mask
    return [(mask & ~taken, index) for mask, index in moves if mask & ~taken]


def is_in_pair(one, other, pair, kind):
    first = is_in_at(one, pair[0])
    second = is_in_at(other, pair[1])
    if kind == EITHER:
        return first or second
    if kind == BOTH:
        return first and second
    return first and not second


def made_of(one, other, kind):
    """The least rows of what is made of the sets that two rows tell."""
    numbers = {(0, 0): 0}
    met = [(0, 0)]
    rows = []
    while len(rows) < len(met):
        pair = met[len(rows)]
        moves = moves_of_pair(one, other, pair, kind)
        for _, target in moves:
            if target not in numbers:
                numbers[target] = len(met)
                met.append(target)
        rows.append((is_in_pair(one, other, pair, kind), tuple([(mask, numbers[target]) for mask, target in moves])))
    return least_rows(tuple(rows))


def is_any_made_of(one, other, kind):
    """Whether a line is in what is made of the sets that two rows tell."""
    is_met = {(0, 0): True}
    met = [(0, 0)]
    while met:
        pair = met.pop()
        if is_in_pair(one, other, pair, kind):
            return True
        for _, target in moves_of_pair(one, other, pair, kind):
            if target not in is_met:
                is_met[target] = True
                met.append(target)
    return False
