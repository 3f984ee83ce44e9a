"""Scripts that print the same for every text."""

from linestream.bounds import check_bounds_of, check_index
from linestream.charts import Numbering
from linestream.commands import passed_by, reduced, with_commands
from linestream.errors import OutOfRange
from linestream.joint import Joint, joint_of
from linestream.kinds import Kinds
from linestream.lines import check_text
from linestream.linesets import LineSet, before
from linestream.running import after_text
from linestream.scripts import Skip
from linestream.search import shortest


def printed_entries(joint, text):
    """For both scripts a list of what they print for a text: tuples (line, number, changes) and their entries."""
    kinds = [joint.kinds.kind_of(line) for line in text]
    outs = [after_text(script, text).out for script in joint.scripts_run]
    return outs, [[joint.entry_of(side, held, kinds) for held in out] for side, out in enumerate(outs)]


def do_agree(joint, text):
    one, other = printed_entries(joint, text)[1]
    return one == other


def agree(one, other, text):
    """Whether two scripts agree on a text."""
    joint = joint_of(one, other)
    check_text(text)
    return do_agree(joint, text)


def varied(one, other, text):
    """None if two scripts agree on a text, otherwise one with lines of the same classes for which they print unlike
    lists."""
    joint = joint_of(one, other)
    check_text(text)
    return varied_by(joint, list(text))


def varied_by(joint, text):
    outs, (one, other) = printed_entries(joint, text)
    if one == other:
        return None
    if [held[0] for held in outs[0]] != [held[0] for held in outs[1]]:
        return text
    at = [first != second for first, second in zip(one, other)].index(True)
    # At most one of both lines is fixed, as they are equal in this text.
    side = 1 if isinstance(one[at], str) else 0
    _, number, _ = outs[side][at]
    return [*text[:number - 1], unlike_line(joint, text, outs[side][at], side, outs[1 - side][at]), *text[number:]]


def unlike_line(joint, text, held, side, other):
    """A line of the same class as the one with the number of held, for which it is unlike the other one."""
    line, number, indexes = held
    kind = joint.kinds.kind_of(text[number - 1])
    changes = joint.changes(side, indexes)
    if other[1] == number:
        return joint.kinds.parting(kind, changes, joint.changes(1 - side, other[2]))
    return (joint.kinds.sets[kind] - before(joint.kinds.changes(changes), LineSet(line))).least


def alike(one, other):
    """None if two scripts print the same list for every text, otherwise a text with as few lines as possible for which
    the lists are unlike."""
    return alike_by(joint_of(one, other))


def alike_by(joint):
    # Lines that are fixed and equal to others are rarely what makes scripts alike, and there may be many of them. So
    # all but told ones are taken for different lines at first: if the scripts agree then, they do.
    path = shortest(joint.beginning(), joint.steps(True))
    if path is not None and do_agree(joint, joint.kinds.lines_on(path)):
        path = shortest(joint.beginning(), joint.steps(False))
    return None if path is None else varied_by(joint, joint.kinds.lines_on(path))


def outlook(one, other, text):
    """What is held behind a begun text; None if what both scripts have printed for it is not the same."""
    joint = joint_of(one, other)
    check_text(text)
    state = joint.state_after(text)
    return None if state is None else joint.told(state)


def without(script, index):
    """The script without a command."""
    check_index(index, len(script))
    return reduced(script, [each for each in range(len(script)) if each != index])


def can_swap(script, index):
    """Whether a command and the next one can change places."""
    commands = script.commands
    if isinstance(commands[index], Skip) or isinstance(commands[index + 1], Skip):
        return False
    return index not in [passed_by(script, skip)[-1] for skip in range(index) if isinstance(commands[skip], Skip)]


def with_swapped(script, index):
    commands = script.commands
    return with_commands(script, [*commands[:index], commands[index + 1], commands[index], *commands[index + 2:]])


def swapped(script, index):
    """The script in which a command and the next one have changed places."""
    check_index(index, len(script) - 1)
    if not can_swap(script, index):
        raise OutOfRange(index)
    return with_swapped(script, index)


def needless(script):
    """The indexes of all commands without which the script is alike to it."""
    check_bounds_of(script)
    # The cases of a script without a command are some of its own.
    kinds = Kinds([script])
    return tuple([index for index in range(len(script))
                  if alike_by(Joint(script, without(script, index), kinds, Numbering([script]))) is None])


def swappable(script):
    """The indexes of all commands that can change places with the next one, and the script is alike then."""
    check_bounds_of(script)
    kinds = Kinds([script])
    numbering = Numbering([script])
    found = []
    for index in range(len(script) - 1):
        if can_swap(script, index):
            other = with_swapped(script, index)
            both = kinds if kinds.have_cases_of(other) else Kinds([script, other])
            if alike_by(Joint(script, other, both, numbering)) is None:
                found.append(index)
    return tuple(found)
