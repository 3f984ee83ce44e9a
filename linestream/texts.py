"""Scripts and commands as they are written."""

from linestream.changes import Behind, Every, First, Front, Swap
from linestream.commands import plain_command, word_of
from linestream.conditions import Begins, Both, Either, Ends, Fails, Has, Is, Only, parts
from linestream.errors import InvalidLine, Unreadable
from linestream.forms import Reader, literal
from linestream.lines import check_text, is_line
from linestream.scripts import (
    Any, Change, Changed, Count, Each, If, Kept, Last, Later, Not, Number, Range, Script, Skip, Tell)
from linestream.streams import lines_named


def write_test(test):
    inner = parts(test)
    if inner:
        return " ".join([word_of(test), *[write_test(each) for each in inner]])
    if isinstance(test, Is):
        return f"{word_of(test)} {literal(test.line)}"
    return f"{word_of(test)} {literal(test.letters if isinstance(test, Only) else test.word)}"


def write_change(change):
    return " ".join([word_of(change), *[literal(line) for line in lines_named(change)]])


def write_address(address):
    word = word_of(address)
    if isinstance(address, (Number, Count)):
        return f"{word} {address.number}"
    if isinstance(address, Each):
        return f"{word} {address.step} {address.start}"
    if isinstance(address, If) or isinstance(address, Kept) and address.test is not None:
        return f"{word} {write_test(address.test)}"
    if isinstance(address, Not):
        return f"{word} {write_address(address.address)}"
    if isinstance(address, Range):
        return f"{word} {write_address(address.start)} {write_address(address.stop)}"
    return word


def write_command(command):
    """The line of a command."""
    found = [word_of(command)]
    if isinstance(command, Change):
        found.append(write_change(command.change))
    if isinstance(command, (Tell, Later)):
        found.append(literal(command.line))
    if isinstance(command, Skip):
        found.append(str(command.many))
    if command.at != Any():
        found.append("at " + write_address(command.at))
    return " ".join(found)


def write_script(script):
    """The text of a script."""
    head = f"window {script.window} store {script.store}"
    return [head + " quiet" if script.is_quiet else head, *[write_command(command) for command in script.commands]]


def test_of(form):
    """The test that was read."""
    word = form[0]
    if word == "fails":
        return Fails(test_of(form[1]))
    if word in ("both", "either"):
        one, other = test_of(form[1]), test_of(form[2])
        return Both(one, other) if word == "both" else Either(one, other)
    if word == "has":
        return Has(form[1])
    if word == "begins":
        return Begins(form[1])
    if word == "ends":
        return Ends(form[1])
    return Is(form[1]) if word == "is" else Only(form[1])


def change_of(form):
    """The change that was read."""
    word, *lines = form
    if word == "first":
        return First(*lines)
    if word == "every":
        return Every(*lines)
    if word == "swap":
        return Swap(*lines)
    return Front(*lines) if word == "front" else Behind(*lines)


def address_of(form):
    """The address that was read, or the Count."""
    word = form[0]
    if word == "number":
        return Number(form[1])
    if word == "each":
        return Each(form[1], form[2])
    if word == "if":
        return If(test_of(form[1]))
    if word == "kept":
        return Kept() if form[1] is None else Kept(test_of(form[1]))
    if word == "not":
        return Not(address_of(form[1]))
    if word == "range":
        start = address_of(form[1])
        return Range(start, address_of(form[2]))
    if word == "count":
        return Count(form[1])
    if word == "any":
        return Any()
    return Last() if word == "last" else Changed()


def command_of(form):
    """The command that was read."""
    word, argument, place = form
    change = change_of(argument) if word == "change" else None
    at = None if place is None else address_of(place)
    if word == "change":
        return Change(change, at=at)
    if word == "tell":
        return Tell(argument, at=at)
    if word == "later":
        return Later(argument, at=at)
    if word == "skip":
        return Skip(argument, at=at)
    return plain_command(word, at)


def script_of(head, forms):
    """The script of a first line and commands that were read."""
    window, store, is_quiet = head
    commands = [command_of(form) for form in forms]
    return Script(*commands, window=window, store=store, is_quiet=is_quiet)


def command_form(index, line):
    """What is read of the line of a command."""
    reader = Reader(index, line)
    form = reader.take_command(())
    reader.finish()
    return form


def read_command(line):
    """The command that is written in a line."""
    if not is_line(line):
        raise InvalidLine(line)
    return command_of(command_form(0, line))


def read_script(text):
    """The script that is written in a text."""
    check_text(text)
    if not text:
        raise Unreadable(0, 0)
    reader = Reader(0, text[0])
    head = reader.take_head(())
    reader.finish()
    return script_of(head, [command_form(index, line) for index, line in enumerate(text) if index > 0])
