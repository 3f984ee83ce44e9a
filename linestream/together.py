"""Several sets of lines at once, each told by its rows."""

from linestream.errors import TooMany
from linestream.limits import MAX_CLASSES
from linestream.rows import ALL, NOWHERE, least_bit, least_rows


def letters_alike(several):
    """Masks that part all letters: those of one mask are treated alike by all the rows."""
    masks = {mask: True for rows in several for row in rows for mask, _ in row[1]}
    parts = [ALL]
    for mask in masks:
        parts = [part for each in parts for part in (each & mask, each & ~mask) if part]
    return parts


def behind_parts(row, parts):
    """The states behind a state, one for each part of the letters."""
    found = []
    for part in parts:
        targets = [index for mask, index in row[1] if mask & least_bit(part)]
        found.append(targets[0] if targets else NOWHERE)
    return found


def merged_moves(parts, targets):
    """Moves with the letters of the parts, one for each target."""
    masks = {}
    for part, target in zip(parts, targets):
        masks[target] = masks.get(target, 0) | part
    return tuple([(masks[target], target) for target in masks])


def explored(several):
    """All that lines lead to in several rows at once: a list of tuples (answers, moves), answers with a bool for each
    of the rows: whether the line is in its set."""
    parts = letters_alike(several)
    # One more row for NOWHERE, which is the index of the last one.
    tables = [[behind_parts(row, parts) for row in rows] + [[NOWHERE] * len(parts)] for rows in several]
    ends = [[row[0] for row in rows] + [False] for rows in several]
    start = tuple([0 for _ in several])
    numbers = {start: 0}
    met = [start]
    kinds = {}
    found = []
    while len(found) < len(met):
        states = met[len(found)]
        answers = tuple([end[state] for end, state in zip(ends, states)])
        kinds[answers] = True
        if len(kinds) > MAX_CLASSES:
            raise TooMany(MAX_CLASSES)
        behind = [table[state] for table, state in zip(tables, states)]
        targets = [tuple([row[at] for row in behind]) for at in range(len(parts))]
        for target in targets:
            if target not in numbers:
                numbers[target] = len(met)
                met.append(target)
        found.append((answers, merged_moves(parts, [numbers[target] for target in targets])))
    return found


def parted(several):
    """All lines, parted by which of several sets they are in: a list of tuples (answers, least rows); TooMany if there
    are too many of them."""
    found = explored(several)
    kinds = {answers: True for answers, _ in found}
    return [(kind, least_rows(tuple([(answers == kind, moves) for answers, moves in found]))) for kind in kinds]
