"""Runs of scripts."""

from linestream.lines import check_text
from linestream.rounds import Runner, lines_of


def after_text(script, text):
    """A runner that has gone through a text."""
    check_text(text)
    runner = Runner(script)
    for number, line in enumerate(text, start=1):
        if not runner.is_over:
            runner.read(line, number == len(text))
    return runner


def run(script, text):
    """The lines that a script prints for a text."""
    return [line for line, _, _ in after_text(script, text).out]


def counts(script, text):
    """How often each command is done."""
    did = after_text(script, text).did
    return tuple([did.count(index) for index in range(len(script))])


def origins(script, text):
    """For each printed line the number with which it was read, and the Change commands that were done to it; or 0, and
    the command that told it."""
    return [(number, changes) for _, number, changes in after_text(script, text).out]


def trace(script, text):
    """For each round what was done and printed, and the store and the window behind it."""
    check_text(text)
    runner = Runner(script)
    lines = list(text)
    for number, line in enumerate(lines, start=1):
        if not runner.is_over:
            runner.read(line, number == len(lines))
            if runner.place == 0:
                yield {"done": tuple(runner.take_did()), "printed": lines_of(runner.take_out()),
                       "store": lines_of(runner.kept), "window": lines_of(runner.seen)}
