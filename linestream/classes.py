"""Classes of lines, of which the same cases hold, and the cases of a script."""

from itertools import combinations

from linestream.changes import Every, First
from linestream.conditions import Has
from linestream.errors import TooMany
from linestream.lines import line_order
from linestream.linesets import LineSet, before, from_rows
from linestream.scripts import Change, Changed, If, Keep, Kept, addresses_of
from linestream.together import parted

# Change commands of a script whose cases are told.
MOST_CHANGES = 4


def set_of_places(change):
    """The lines in which a change has a place."""
    return LineSet.of(Has(change.old)) if isinstance(change, (First, Every)) else LineSet.every()


def set_of_case(case):
    """The lines of which a case holds."""
    changes, test = case
    if test is not None:
        return before(changes, LineSet.of(test))
    held = LineSet()
    for at, change in enumerate(changes):
        held = held | before(changes[:at], set_of_places(change))
    return held


def classified(sets):
    """All lines, parted by some sets, in the order of their first lines: a list of tuples (class, answers), answers
    with a bool for each set: whether the lines of the class are in it."""
    numbers = {}
    for each in sets:
        numbers[each.rows] = numbers.get(each.rows, len(numbers))
    found = [(from_rows(rows), tuple([answers[numbers[each.rows]] for each in sets]))
             for answers, rows in parted(list(numbers))]
    return sorted(found, key=lambda pair: line_order(pair[0].least))


def classes(cases):
    """The classes by a list of cases, in the order of their first lines."""
    return [lines for lines, _ in classified([set_of_case(case) for case in cases])]


def holding(cases, lines):
    """An entry for each case: True if it holds of all lines of a set, False if of none, None if of some alone."""
    return tuple([held_by(set_of_case(case), lines) for case in cases])


def held_by(held, lines):
    if lines.is_within(held):
        return True
    return False if lines.is_apart(held) else None


def choices_ahead(commands, index):
    """The choices of the changes of Change commands ahead of an index: fewer first, then by their indexes."""
    changes = [command.change for command in commands[:index] if isinstance(command, Change)]
    return [list(choice) for many in range(len(changes) + 1) for choice in combinations(changes, many)]


def cases_of_address(commands, index, address):
    """The cases of one address of the command with this index, without those that stand within it."""
    if isinstance(address, If):
        return [(choice, address.test) for choice in choices_ahead(commands, index)]
    if isinstance(address, Changed):
        return [(choice, None) for choice in choices_ahead(commands, index) if choice]
    keeps = [at for at, command in enumerate(commands) if isinstance(command, Keep)]
    if isinstance(address, Kept) and address.test is not None and keeps:
        # Ahead of the last Keep stand the changes that stand ahead of the others, too.
        return [(choice, address.test) for choice in choices_ahead(commands, keeps[-1])]
    return []


def cases_of(script):
    """The cases of a script, in order, each one once."""
    commands = script.commands
    if len([command for command in commands if isinstance(command, Change)]) > MOST_CHANGES:
        raise TooMany(MOST_CHANGES)
    found = []
    for index, command in enumerate(commands):
        for address in addresses_of(command.at):
            for case in cases_of_address(commands, index, address):
                if case not in found:
                    found.append(case)
    return found
