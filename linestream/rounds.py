"""How a script goes through a text, line by line."""

from linestream.scripts import (
    Any, Change, Changed, Count, Drop, Each, Forget, ForgetFirst, If, Keep, Kept, Last, Later, Leave, Not, Number,
    Print, PrintFirst, Put, PutFirst, Range, Read, Skip, Slide, Stop, Tell, ranges_of)


class Runner:
    """A script that is being run.

    A held line is a tuple (line, number, changes) with its origin: the number with which it was read and the indexes of
    the Change commands done to it; the number is 0 for a line that a command told, whose index stands in changes.
    """

    def __init__(self, script):
        self._script = script
        # How many lines were read, and where: 0 between two rounds, behind a Read 1 greater than its index.
        self.reads = 0
        self.place = 0
        # The window, the store and the lines of Later.
        self.seen = []
        self.kept = []
        self.coming = []
        # For each Range, 0 if it is closed; otherwise how often it has held, or 1 if its stop is no Count.
        self.opened = [0] * len(script.ranges)
        self.slots = slots_of(script)
        self.is_altered = False
        self.is_over = False
        # What was printed, and which commands were done, since it was taken away.
        self.out = []
        self.did = []

    def twin(self):
        """A runner that stands at the same place, apart from this one."""
        other = Runner(self._script)
        other.reads = self.reads
        other.place = self.place
        other.seen = list(self.seen)
        other.kept = list(self.kept)
        other.coming = list(self.coming)
        other.opened = list(self.opened)
        other.is_over = self.is_over
        return other

    def stand(self):
        """All that matters of the past but the number of lines: equal for runners that go on alike."""
        if self.is_over:
            return ()
        return (self.place, lines_of(self.seen), lines_of(self.kept), lines_of(self.coming), tuple(self.opened))

    def stand_at(self, checkpoint):
        """Goes to where a checkpoint of an open session tells; where the lines come from is not known then."""
        _, self.reads, _, self.place, window, store, later, ranges = checkpoint
        self.seen = [(line, 0, ()) for line in window]
        self.kept = [(line, 0, ()) for line in store]
        self.coming = [(line, 0, ()) for line in later]
        self.opened = list(ranges)

    def numbers(self):
        """The numbers of the held lines."""
        return [number for _, number, _ in [*self.seen, *self.kept]]

    def skip(self, many, growths):
        """Takes so many lines as read, while the numbers of the held lines have grown."""
        self.reads += many
        held = [(line, number + growth, changes)
                for (line, number, changes), growth in zip([*self.seen, *self.kept], growths)]
        self.seen, self.kept = held[:len(self.seen)], held[len(self.seen):]

    def read(self, line, is_last):
        """Reads the next line, and does all that is done up to the next reading."""
        self.reads += 1
        self.is_altered = False
        put_into(self.seen, (line, self.reads, ()), self._script.window)
        commands = self._script.commands
        index = self.place
        self.place = 0
        while index < len(commands):
            command = commands[index]
            if self.is_met(command.at, index, is_last):
                self.did.append(index)
                if isinstance(command, Read) and not is_last:
                    self.place = index + 1
                    return
                if isinstance(command, (Read, Drop, Slide, Stop, Leave)):
                    break
                self.do(command, index)
                index += command.many if isinstance(command, Skip) else 0
            index += 1
        self.end_round(commands[index] if index < len(commands) else None)
        self.is_over = self.is_over or is_last

    def end(self):
        """Ends the script, if it has not ended."""
        self.is_over = True

    def end_round(self, command):
        """Ends a round by a command, or behind the last one."""
        if isinstance(command, Leave):
            self.end()
            return
        is_ended = not isinstance(command, (Drop, Slide))
        if is_ended and not self._script.is_quiet:
            self.out.extend(list(self.seen))
        self.out.extend(list(self.coming))
        self.coming = []
        self.seen = self.seen[1:] if isinstance(command, Slide) else []
        self.is_over = isinstance(command, Stop)

    def is_met(self, address, index, is_last):
        """Whether the address of the command with this index holds; asks it."""
        if isinstance(address, Not):
            return not self.is_met(address.address, index, is_last)
        if isinstance(address, Range):
            return self.is_in_range(address, index, is_last)
        if isinstance(address, Number):
            return self.reads == address.number
        if isinstance(address, Each):
            return self.reads >= address.start and (self.reads - address.start) % address.step == 0
        if isinstance(address, If):
            return address.test.holds(self.seen[-1][0])
        if isinstance(address, Kept):
            return self.kept != [] and (address.test is None or address.test.holds(self.kept[-1][0]))
        if isinstance(address, Changed):
            return self.is_altered
        return is_last if isinstance(address, Last) else isinstance(address, Any)

    def is_in_range(self, address, index, is_last):
        slot = self.slots[index]
        many = self.opened[slot]
        if many == 0 and not self.is_met(address.start, index, is_last):
            return False
        stop = address.stop
        if isinstance(stop, Count):
            self.opened[slot] = (many + 1) % stop.number
        elif isinstance(stop, Number):
            self.opened[slot] = 0 if stop.number <= self.reads else 1
        else:
            self.opened[slot] = 0 if many and self.is_met(stop, index, is_last) else 1
        return True

    def do(self, command, index):
        """Does a command that does not end the round."""
        if isinstance(command, Change):
            line, number, changes = self.seen[-1]
            self.is_altered = self.is_altered or command.change.has_place(line)
            self.seen[-1] = (command.change.done(line), number, (*changes, index))
        elif isinstance(command, Print):
            self.out.extend(list(self.seen))
        elif isinstance(command, PrintFirst):
            self.out.append(self.seen[0])
        elif isinstance(command, Tell):
            self.out.append((command.line, 0, (index,)))
        elif isinstance(command, Later):
            self.coming.append((command.line, 0, (index,)))
        else:
            self.do_with_store(command)

    def do_with_store(self, command):
        if isinstance(command, Keep):
            put_into(self.kept, self.seen[-1], self._script.store)
        elif isinstance(command, Put):
            self.out.extend(list(self.kept))
        elif isinstance(command, PutFirst):
            self.out.extend(self.kept[:1])
        elif isinstance(command, Forget):
            self.kept = []
        elif isinstance(command, ForgetFirst):
            self.kept = self.kept[1:]

    def take_out(self):
        """Takes away what was printed."""
        taken = self.out
        self.out = []
        return taken

    def take_did(self):
        """Takes away the indexes of the commands that were done."""
        taken = self.did
        self.did = []
        return taken


def slots_of(script):
    """For each command, how many Ranges stand ahead of its own."""
    slots = []
    many = 0
    for command in script.commands:
        slots.append(many)
        many += len(ranges_of(command.at))
    return slots


def put_into(held, line, room):
    """Puts a line into a window or a store: if there is no room, the first one goes."""
    held.append(line)
    if len(held) > room:
        del held[0]


def lines_of(held):
    return tuple([line for line, _, _ in held])
