"""Runs of scripts told once more, in the plainest way, to be held beside those of the program."""

from linestream.scripts import (
    Any, Change, Changed, Count, Each, If, Keep, Kept, Last, Later, Not, Number, Print, PrintFirst, Put, PutFirst, Range,
    Read, Skip, Tell)


class Held:
    """A line that was read, with its origin."""

    def __init__(self, line, number, changes=()):
        self.line, self.number, self.changes = line, number, tuple(changes)

    def same(self):
        return Held(self.line, self.number, self.changes)


class Plain:
    """[30] to [37], for a script and a whole text."""

    def __init__(self, script, text):
        self.script, self.text = script, list(text)
        self.number = 0
        self.window, self.store, self.later = [], [], []
        self.ranges = {}
        self.printed, self.rounds = [], []
        self.counts = [0] * len(script.commands)
        self.kept_most = 0
        while self.number < len(self.text):
            if self.one_round() == "end":
                break

    def read(self):
        self.number += 1
        self.window = (self.window + [Held(self.text[self.number - 1], self.number)])[-self.script.window:]
        self.changed = False

    def holds(self, address, at):
        newest = self.window[-1]
        kind = type(address)
        if kind is Any:
            return True
        if kind is Number:
            return self.number == address.number
        if kind is Each:
            return self.number in range(address.start, len(self.text) + 1, address.step)
        if kind is Last:
            return self.number == len(self.text)
        if kind is If:
            return address.test.holds(newest.line)
        if kind is Changed:
            return self.changed
        if kind is Kept:
            return bool(self.store) and (address.test is None or address.test.holds(self.store[-1].line))
        if kind is Not:
            return not self.holds(address.address, at)
        assert kind is Range
        return self.in_range(address, at)

    def in_range(self, address, at):
        stop = address.stop
        if at not in self.ranges:
            if not self.holds(address.start, at):
                return False
            if type(stop) is Number and stop.number <= self.number or stop == Count(1):
                return True
            self.ranges[at] = 1
            return True
        self.ranges[at] += 1
        if type(stop) is Number:
            ends = stop.number <= self.number
        elif type(stop) is Count:
            ends = self.ranges[at] == stop.number
        else:
            ends = self.holds(stop, at)
        if ends:
            del self.ranges[at]
        return True

    def put_out(self, held):
        self.out += [each.same() for each in held]

    def one_round(self):
        self.read()
        self.out, self.done = [], []
        ended = self.commands()
        if ended in ("behind", "Stop") and not self.script.is_quiet:
            self.put_out(self.window)
        if ended != "Leave":
            self.put_out(self.later)
            self.window = self.window[1:] if ended == "Slide" else []
        self.later = []
        self.printed += self.out
        self.rounds.append({
            "done": tuple(self.done), "printed": tuple(each.line for each in self.out),
            "store": tuple(each.line for each in self.store), "window": tuple(each.line for each in self.window)})
        return "end" if ended in ("Stop", "Leave") else ""

    def commands(self):
        """Comes to the commands, and tells how the round ends."""
        passed_by = 0
        for at, command in enumerate(self.script.commands):
            if passed_by:
                passed_by -= 1
                continue
            if not self.holds(command.at, at):
                continue
            self.done.append(at)
            self.counts[at] += 1
            kind = type(command)
            if kind.__name__ in ("Drop", "Slide", "Stop", "Leave"):
                return kind.__name__
            if kind is Read:
                if self.number == len(self.text):
                    return "behind"
                self.read()
            elif kind is Skip:
                passed_by = command.many
            else:
                self.do(command, kind, at)
        return "behind"

    def do(self, command, kind, at):
        if kind is Change:
            newest = self.window[-1]
            self.changed |= command.change.has_place(newest.line)
            self.window[-1] = Held(command.change.done(newest.line), newest.number, newest.changes + (at,))
        elif kind is Print:
            self.put_out(self.window)
        elif kind is PrintFirst:
            self.put_out(self.window[:1])
        elif kind is Tell:
            self.put_out([Held(command.line, 0, (at,))])
        elif kind is Later:
            self.later.append(Held(command.line, 0, (at,)))
        elif kind is Keep:
            self.store = (self.store + [self.window[-1].same()])[max(0, len(self.store) + 1 - self.script.store):]
            self.kept_most = max(self.kept_most, len(self.store))
        elif kind is Put:
            self.put_out(self.store)
        elif kind is PutFirst:
            self.put_out(self.store[:1])
        else:
            self.store = [] if kind.__name__ == "Forget" else self.store[1:]

    def run(self):
        return [each.line for each in self.printed]

    def origins(self):
        return [(each.number, each.changes) for each in self.printed]
