"""Desks: scripts and texts that are kept under names."""

from linestream.errors import InvalidRow, NoName, Nothing, Unreadable
from linestream.forms import Reader, literal
from linestream.likeness import alike
from linestream.lines import is_line
from linestream.running import counts, run
from linestream.texts import script_of

ROWS = ("script", "text", "drop", "undo", "run", "counts", "alike")
KEPT = ("script", "text")
BETWEEN = (";",)
DONE = "ok"
NONE = "-"


def read_row(row):
    """What a row says: its word and what stands behind it, a list; raises InvalidRow for any value that is no row."""
    if not is_line(row):
        raise InvalidRow(row)
    try:
        return row_behind(Reader(0, row))
    except Unreadable:
        raise InvalidRow(row) from None


def row_behind(reader):
    word = reader.take_word(ROWS)
    found = [word]
    if word == "drop":
        reader.gap()
        found.append(reader.take_word(KEPT))
    if word != "undo":
        reader.gap()
        found.append(reader.take_name())
    if word in ("run", "counts", "alike"):
        reader.gap()
        found.append(reader.take_name())
    if word == "script":
        reader.gap()
        found.extend([reader.take_head(BETWEEN), commands_behind(reader)])
    if word == "text":
        found.append(literals_behind(reader))
    reader.finish()
    return found


def commands_behind(reader):
    found = []
    while not reader.is_at_end():
        reader.gap()
        reader.take_word(BETWEEN)
        reader.gap()
        found.append(reader.take_command(BETWEEN))
    return found


def literals_behind(reader):
    found = []
    while not reader.is_at_end():
        reader.gap()
        found.append(reader.take_literal())
    return found


def answer_of(pieces):
    return " ".join(pieces) if pieces else NONE


def found_in(kept, name):
    """What is kept under a name."""
    if name not in kept:
        raise NoName(name)
    return kept[name]


class Desk:
    """Keeps scripts and texts with names, and answers rows."""

    def __init__(self):
        self._scripts = {}
        self._texts = {}
        # What the rows that can be undone have replaced: tuples (kept, name, what it was or None).
        self._past = []

    @property
    def scripts(self):
        return {name: self._scripts[name] for name in sorted(list(self._scripts))}

    @property
    def texts(self):
        return {name: list(self._texts[name]) for name in sorted(list(self._texts))}

    def say(self, row):
        """Does what a row says."""
        word, *rest = read_row(row)
        if word == "script":
            name, head, forms = rest
            return self.keep_as("script", name, script_of(head, forms))
        if word == "text":
            return self.keep_as("text", *rest)
        if word == "drop":
            kept, name = rest
            found_in(self.table_of(kept), name)
            return self.keep_as(kept, name, None)
        if word == "undo":
            return self.undo()
        return self.ask(word, *rest)

    def ask(self, word, name, other):
        """Answers a question about what is kept."""
        script = found_in(self._scripts, name)
        if word == "alike":
            text = alike(script, found_in(self._scripts, other))
            return NONE if text is None else answer_of([literal(line) for line in text])
        text = found_in(self._texts, other)
        if word == "run":
            return answer_of([literal(line) for line in run(script, text)])
        return answer_of([str(many) for many in counts(script, text)])

    def table_of(self, kept):
        return self._scripts if kept == "script" else self._texts

    def keep_as(self, kept, name, value):
        """Keeps a value under a name, or nothing if it is None; it can be undone."""
        self._past.append((kept, name, self.table_of(kept).get(name)))
        return self.put(kept, name, value)

    def put(self, kept, name, value):
        table = self.table_of(kept)
        if value is None:
            del table[name]
        else:
            table[name] = value
        return DONE

    def undo(self):
        if not self._past:
            raise Nothing()
        kept, name, value = self._past.pop()
        return self.put(kept, name, value)
