"""Runs of scripts told once more, in the plainest way, to be held beside those of the program."""

from linestream.scripts import (
    Any, Change, Changed, Count, Each, If, Keep, Kept, Last, Later, Not, Number, Print, PrintFirst, Put, PutFirst, Range,
    Read, Skip, Tell, addresses_of)


class Held:
    """A line that was read, with its origin."""

    def __init__(self, line, number, changes=()):
        self.line, self.number, self.changes = line, number, tuple(changes)

    def same(self):
        return Held(self.line, self.number, self.changes)


class NoLine(Exception):
    """A line that is to come is not there yet."""


class Plain:
    """[30] to [37], for a script and a whole text."""

    def __init__(self, script, text, more=0):
        self.script, self.text = script, list(text)
        # So many lines are to come behind the text.
        self.length = len(self.text) + more
        self.number = 0
        self.window, self.store, self.later = [], [], []
        self.ranges = {}
        self.printed, self.rounds = [], []
        self.counts = [0] * len(script.commands)
        self.kept_most = 0
        # What was come to: tuples (index, is_done); and how many lines were held just before each line was read.
        self.events, self.held_ahead = set(), []
        # For each line that was read what was come to behind it.
        self.steps = []
        # By how many lines a printed line was late at most, -1 if there was none.
        self.late_most = -1
        self.out, self.later, self.has_ended, self.place = [], [], False, 0
        while self.number < self.length and not self.has_ended:
            self.has_ended = self.one_round() == "end"

    def read(self):
        if self.number == len(self.text):
            raise NoLine()
        self.held_ahead.append(len(self.window) + len(self.store))
        self.steps.append([])
        self.number += 1
        self.window = (self.window + [Held(self.text[self.number - 1], self.number)])[-self.script.window:]
        self.changed = False

    def holds(self, address, at):
        newest = self.window[-1]
        kind = type(address)
        if kind is Any:
            return True
        if kind is Number:
            return self.number == address.number
        if kind is Each:
            return self.number in range(address.start, self.length + 1, address.step)
        if kind is Last:
            return self.number == self.length
        if kind is If:
            return address.test.holds(newest.line)
        if kind is Changed:
            return self.changed
        if kind is Kept:
            return bool(self.store) and (address.test is None or address.test.holds(self.store[-1].line))
        if kind is Not:
            return not self.holds(address.address, at)
        assert kind is Range
        return self.in_range(address, at)

    def in_range(self, address, at):
        stop = address.stop
        if at not in self.ranges:
            if not self.holds(address.start, at):
                return False
            if type(stop) is Number and stop.number <= self.number or stop == Count(1):
                return True
            self.ranges[at] = 1
            return True
        self.ranges[at] += 1
        if type(stop) is Number:
            ends = stop.number <= self.number
        elif type(stop) is Count:
            ends = self.ranges[at] == stop.number
        else:
            ends = self.holds(stop, at)
        if ends:
            del self.ranges[at]
        return True

    def put_out(self, held):
        self.out += [each.same() for each in held]
        self.late_most = max([self.late_most] + [self.number - each.number for each in held if each.number])

    def one_round(self):
        self.out, self.done = [], []
        self.read()
        ended = self.commands()
        if ended in ("behind", "Stop") and not self.script.is_quiet:
            self.put_out(self.window)
        if ended != "Leave":
            self.put_out(self.later)
            self.window = self.window[1:] if ended == "Slide" else []
        self.later = []
        self.printed += self.out
        self.rounds.append({
            "done": tuple(self.done), "printed": tuple(each.line for each in self.out),
            "store": tuple(each.line for each in self.store), "window": tuple(each.line for each in self.window)})
        return "end" if ended in ("Stop", "Leave") else ""

    def commands(self):
        """Comes to the commands, and tells how the round ends."""
        passed_by = 0
        for at, command in enumerate(self.script.commands):
            if passed_by:
                passed_by -= 1
                continue
            is_done = self.holds(command.at, at)
            self.events.add((at, is_done))
            self.steps[-1].append((at, is_done))
            if not is_done:
                continue
            self.done.append(at)
            self.counts[at] += 1
            kind = type(command)
            if kind.__name__ in ("Drop", "Slide", "Stop", "Leave"):
                return kind.__name__
            if kind is Read:
                if self.number == self.length:
                    return "behind"
                self.place = at + 1
                self.read()
                self.place = 0
            elif kind is Skip:
                passed_by = command.many
            else:
                self.do(command, kind, at)
        return "behind"

    def do(self, command, kind, at):
        if kind is Change:
            newest = self.window[-1]
            self.changed |= command.change.has_place(newest.line)
            self.window[-1] = Held(command.change.done(newest.line), newest.number, newest.changes + (at,))
        elif kind is Print:
            self.put_out(self.window)
        elif kind is PrintFirst:
            self.put_out(self.window[:1])
        elif kind is Tell:
            self.put_out([Held(command.line, 0, (at,))])
        elif kind is Later:
            self.later.append(Held(command.line, 0, (at,)))
        elif kind is Keep:
            self.store = (self.store + [self.window[-1].same()])[max(0, len(self.store) + 1 - self.script.store):]
            self.kept_most = max(self.kept_most, len(self.store))
        elif kind is Put:
            self.put_out(self.store)
        elif kind is PutFirst:
            self.put_out(self.store[:1])
        else:
            self.store = [] if kind.__name__ == "Forget" else self.store[1:]

    def run(self):
        return [each.line for each in self.printed]

    def origins(self):
        return [(each.number, each.changes) for each in self.printed]


class Begun(Plain):
    """A run on a text behind which more lines are to come, up to the reading of the first one of them."""

    def __init__(self, script, text):
        try:
            Plain.__init__(self, script, text, 1)
        except NoLine:
            self.printed = self.printed + self.out

    def opened(self):
        """[54]: an integer for each Range, one at most in a command."""
        commands = [at for at, command in enumerate(self.script.commands) for each in addresses_of(command.at)
                    if isinstance(each, Range)]
        many = [self.ranges.get(at, 0) for at in commands]
        return tuple(each if isinstance(of.stop, Count) else min(each, 1) for each, of in zip(many, self.script.ranges))
