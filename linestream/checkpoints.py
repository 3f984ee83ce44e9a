"""Checkpoints: where a session can stand."""

from linestream.limits import MAX_COMMANDS
from linestream.lines import is_line, is_text
from linestream.scripts import Count, Read
from linestream.values import is_integer

FINISHED = ("finished",)
ENDED = ("ended",)
OPEN = "open"


def is_checkpoint(script, value):
    """Whether any value tells where a session of a script can stand."""
    if not isinstance(value, tuple):
        return False
    return value == FINISHED or value == ENDED or is_open(script, value)


def is_open(script, value):
    if len(value) != 8 or value[0] != OPEN:
        return False
    _, number, waiting, place, window, store, later, ranges = value
    if not are_lines(window, script.window) or not are_lines(store, script.store):
        return False
    if not are_lines(later, MAX_COMMANDS) or not are_ranges(script, ranges):
        return False
    if not is_integer(number) or number < len(window) or not is_place(script, place):
        return False
    if not fits_place(script, place, window, later):
        return False
    if number == 0:
        is_start = place == 0 and window + store + later == () and not any(ranges)
        return is_start and (waiting is None or is_line(waiting))
    return is_line(waiting)


def are_lines(value, most):
    return isinstance(value, tuple) and is_text(value) and len(value) <= most


def are_ranges(script, value):
    """Whether any value tells, for each Range of a script, whether it is open."""
    if not isinstance(value, tuple) or len(value) != len(script.ranges):
        return False
    return all([is_integer(many) and 0 <= many < most_held(each) for many, each in zip(value, script.ranges)])


def most_held(address):
    """What the integer of a Range is less than."""
    return address.stop.number if isinstance(address.stop, Count) else 2


def is_place(script, value):
    """Whether any value is the place between two rounds, or that of a Read."""
    if not is_integer(value) or not 0 <= value <= len(script):
        return False
    return value == 0 or isinstance(script.commands[value - 1], Read)


def fits_place(script, place, window, later):
    """Whether there can be so many lines in the window and of Later at a place."""
    if place == 0:
        return len(window) < script.window and later == ()
    return window != ()
