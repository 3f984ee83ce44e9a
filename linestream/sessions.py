"""Sessions: runs on texts whose lines are fed one after the other."""

from linestream.checkpoints import ENDED, FINISHED, OPEN, is_checkpoint
from linestream.errors import Finished, InvalidCheckpoint, InvalidLine
from linestream.lines import is_line
from linestream.rounds import Runner, lines_of


class Session:
    """A run of a script on a text that is fed."""

    def __init__(self, script):
        self._script = script
        self._runner = Runner(script)
        self._fed = 0
        self._waiting = None
        self._printed = []
        self._is_finished = False

    @classmethod
    def resumed(cls, script, checkpoint):
        if not is_checkpoint(script, checkpoint):
            raise InvalidCheckpoint(checkpoint)
        made = cls(script)
        made._is_finished = checkpoint == FINISHED
        if checkpoint[0] != OPEN:
            made._runner.end()
            return made
        made._waiting = checkpoint[2]
        made._fed = checkpoint[1] + (0 if checkpoint[2] is None else 1)
        made._runner.stand_at(checkpoint)
        return made

    @property
    def script(self):
        return self._script

    @property
    def fed(self):
        return self._fed

    @property
    def waiting(self):
        return self._waiting

    @property
    def printed(self):
        return tuple(self._printed)

    @property
    def has_ended(self):
        return self._runner.is_over

    @property
    def is_finished(self):
        return self._is_finished

    @property
    def checkpoint(self):
        if self._is_finished:
            return FINISHED
        if self._runner.is_over:
            return ENDED
        place, window, store, later, ranges = self._runner.stand()
        return (OPEN, self._runner.reads, self._waiting, place, window, store, later, ranges)

    def feed(self, *lines):
        if self._is_finished:
            raise Finished()
        for value in lines:
            if not is_line(value):
                raise InvalidLine(value)
        for line in lines:
            self.read_waiting(False)
            self._fed += 1
            self._waiting = None if self._runner.is_over else line
        return self.taken()

    def finish(self):
        if self._is_finished:
            raise Finished()
        self.read_waiting(True)
        self._is_finished = True
        self._runner.end()
        return self.taken()

    def read_waiting(self, is_last):
        if self._waiting is not None:
            self._runner.read(self._waiting, is_last)
            self._waiting = None

    def taken(self):
        """What was printed since it was taken away."""
        lines = lines_of(self._runner.take_out())
        self._printed.extend(lines)
        self._runner.take_did()
        return lines

    def copy(self):
        made = Session(self._script)
        made._runner = self._runner.twin()
        made._fed = self._fed
        made._waiting = self._waiting
        made._printed = list(self._printed)
        made._is_finished = self._is_finished
        return made

    def __eq__(self, other):
        return (isinstance(other, Session) and self._script == other._script
                and self.checkpoint == other.checkpoint)
