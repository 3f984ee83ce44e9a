"""Sets of lines as rows of numbers.

The rows of a set are a tuple of states. A state is a tuple (is_in, moves), moves a tuple of tuples (mask, index): a
bit of a mask stands for each letter with which the move is made. What these functions are given stays as it is.
"""

# In their order; the bit of a letter is its index here.
LETTERS = " !\"#$&'()*+,-./0123456789:;<=>?@ABCDEFGHIJKLMNOPQRSTUVWXYZ[\\]^_`abcdefghijklmnopqrstuvwxyz{|}~"
ALL = (1 << 94) - 1
# Where no line leads to the set any more.
NOWHERE = -1

NO_LINES = ((False, ()),)
ALL_LINES = ((True, (((1 << 94) - 1, 0),)),)


def bit_of(letter):
    # Not by index: errors keep an attribute of this name, and operators call no such name.
    return 1 << LETTERS.find(letter)


def mask_of(letters):
    """The mask of some letters, each of which may stand there several times."""
    mask = 0
    for letter in letters:
        mask = mask | bit_of(letter)
    return mask


def letters_of(mask):
    """The letters of a mask, ascending."""
    return "".join([letter for at, letter in enumerate(LETTERS) if mask >> at & 1])


def least_bit(mask):
    return mask & -mask


def least_letter(mask):
    """The least letter of a mask that is not 0."""
    return LETTERS[least_bit(mask).bit_length() - 1]


def how_many(mask):
    digits = f"{mask:b}"
    return digits.count("1")


def after_letter(rows, state, letter):
    """The state behind a letter."""
    if state == NOWHERE:
        return NOWHERE
    bit = bit_of(letter)
    for mask, index in rows[state][1]:
        if mask & bit:
            return index
    return NOWHERE


def after_line(rows, state, line):
    """The state behind a line."""
    for letter in line:
        state = after_letter(rows, state, letter)
    return state


def is_in_at(rows, state):
    """Whether a line that leads to this state is in the set."""
    return state != NOWHERE and rows[state][0]


def has_line(rows, line):
    return is_in_at(rows, after_line(rows, 0, line))


def post_order(rows):
    """The states that are reached, each behind all that it leads to, as far as loops do not hinder it."""
    order = []
    is_met = {0: True}
    path = [(0, 0)]
    while path:
        state, at = path.pop()
        moves = rows[state][1]
        while at < len(moves) and moves[at][1] in is_met:
            at += 1
        if at == len(moves):
            order.append(state)
        else:
            path.append((state, at + 1))
            path.append((moves[at][1], 0))
            is_met[moves[at][1]] = True
    return order


def living(rows, order):
    """A dict of True for the states from which some line leads into the set."""
    alive = {}
    is_new = True
    while is_new:
        is_new = False
        for state in order:
            if state not in alive and (rows[state][0] or any([index in alive for _, index in rows[state][1]])):
                alive[state] = True
                is_new = True
    return alive


def joined_moves(moves, groups):
    """Moves to groups of states in ascending order of the groups, one for each group; others are left out."""
    masks = {}
    for mask, index in moves:
        if index in groups:
            masks[groups[index]] = masks.get(groups[index], 0) | mask
    return tuple([(masks[group], group) for group in sorted(list(masks))])


def without_loops(rows, order, alive):
    """Groups of the living states from which finitely many lines lead into the set: equal ones in one group."""
    groups = {}
    numbers = {}
    for state in order:
        if state in alive and all([index in groups for _, index in rows[state][1] if index in alive]):
            key = (rows[state][0], joined_moves(rows[state][1], groups))
            numbers[key] = numbers.get(key, len(numbers))
            groups[state] = numbers[key]
    return groups


def grouped(rows, order, alive):
    """Groups of the living states: two are in one group if the same lines lead from both into the set."""
    settled = without_loops(rows, order, alive)
    others = [state for state in order if state in alive and state not in settled]
    # Settled states are never equal to the others, from which infinitely many lines lead into the set.
    first = len(settled)
    together = {state: first for state in others}
    groups = {**settled, **together}
    many = 0
    while True:
        numbers = {}
        refined = {}
        for state in others:
            key = (groups[state], rows[state][0], joined_moves(rows[state][1], groups))
            numbers[key] = numbers.get(key, first + len(numbers))
            refined[state] = numbers[key]
        if len(numbers) == many:
            return groups
        many = len(numbers)
        groups = {**settled, **refined}


def least_rows(rows):
    """The least rows of the set that rows tell, with the numbers of states and the order of moves of its table."""
    order = post_order(rows)
    alive = living(rows, order)
    if 0 not in alive:
        return NO_LINES
    groups = grouped(rows, order, alive)
    some = {groups[state]: rows[state] for state in groups}
    numbers = {groups[0]: 0}
    met = [groups[0]]
    found = []
    while len(found) < len(met):
        is_in, moves = some[met[len(found)]]
        joined = sorted([(least_bit(mask), mask, group) for mask, group in joined_moves(moves, groups)])
        for _, _, group in joined:
            if group not in numbers:
                numbers[group] = len(met)
                met.append(group)
        found.append((is_in, tuple([(mask, numbers[group]) for _, mask, group in joined])))
    return tuple(found)


def first_of(rows):
    """The first line of the set that least rows tell, None if there is none."""
    ends = [state for state, row in enumerate(rows) if row[0]]
    if not ends:
        return None
    # The states of least rows have the order of the first lines that lead to them.
    before = {}
    for state in range(ends[0]):
        for mask, index in rows[state][1]:
            if index not in before:
                before[index] = (state, least_letter(mask))
    letters = []
    state = ends[0]
    while state != 0:
        state, letter = before[state]
        letters.append(letter)
    return "".join(reversed(letters))


def some_lines(rows, many):
    """So many short lines of the set that least rows tell, or fewer; more than one if it has more than one."""
    found = []
    visits = {}
    waiting = [("", 0)]
    at = 0
    while at < len(waiting) and len(found) < many:
        line, state = waiting[at]
        at += 1
        visits[state] = visits.get(state, 0) + 1
        if visits[state] <= many:
            if rows[state][0]:
                found.append(line)
            for mask, index in rows[state][1]:
                waiting.extend([(line + letter, index) for letter in sorted(set(end_letters(mask)))])
    return found


def end_letters(mask):
    """The least and the greatest letter of a mask that is not 0."""
    return [least_letter(mask), LETTERS[mask.bit_length() - 1]]


def size_of(rows):
    """How many lines there are in the set that least rows tell, None if infinitely many."""
    sizes = {}
    for state in post_order(rows):
        is_in, moves = rows[state]
        if not all([index in sizes for _, index in moves]):
            return None
        sizes[state] = int(is_in) + sum([how_many(mask) * sizes[index] for mask, index in moves])
    return sizes[0]
