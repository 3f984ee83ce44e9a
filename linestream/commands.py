"""Commands and scripts made anew from others."""

from linestream.scripts import (
    Change, Drop, Forget, ForgetFirst, Keep, Later, Leave, Print, PrintFirst, Put, PutFirst, Read, Script, Skip, Slide,
    Stop, Tell)


def word_of(value):
    """The word of a test, a change, an address or a command."""
    word = value.__class__.__name__
    return word.lower()


def plain_command(word, at):
    """The command of a word that takes nothing but an address."""
    if word in ("print", "printfirst"):
        return Print(at=at) if word == "print" else PrintFirst(at=at)
    if word in ("put", "putfirst"):
        return Put(at=at) if word == "put" else PutFirst(at=at)
    if word in ("forget", "forgetfirst"):
        return Forget(at=at) if word == "forget" else ForgetFirst(at=at)
    if word in ("keep", "read"):
        return Keep(at=at) if word == "keep" else Read(at=at)
    if word in ("drop", "slide"):
        return Drop(at=at) if word == "drop" else Slide(at=at)
    return Stop(at=at) if word == "stop" else Leave(at=at)


def placed(command, at):
    """The command with another address."""
    if isinstance(command, Change):
        return Change(command.change, at=at)
    if isinstance(command, Tell):
        return Tell(command.line, at=at)
    if isinstance(command, Later):
        return Later(command.line, at=at)
    if isinstance(command, Skip):
        return Skip(command.many, at=at)
    return plain_command(word_of(command), at)


def with_commands(script, commands):
    """A script with other commands."""
    window, store, is_quiet = script.window, script.store, script.is_quiet
    return Script(*commands, window=window, store=store, is_quiet=is_quiet)


def passed_by(script, index):
    """The indexes of the commands that a Skip passes by, none for other commands."""
    command = script.commands[index]
    return list(range(index + 1, index + 1 + command.many)) if isinstance(command, Skip) else []


def reduced(script, left):
    """A script with the commands of some ascending indexes alone. Skips pass by as many of them as they passed by; one
    that would pass by none goes, too."""
    many = len(left) + 1
    while len(left) < many:
        many = len(left)
        # From the last one on, so that mostly no Skip is left for another time.
        for index in reversed(list(left)):
            passed = passed_by(script, index)
            if passed and not [each for each in passed if each in left]:
                left = [each for each in left if each != index]
    commands = []
    for index in left:
        command = script.commands[index]
        many = len([each for each in passed_by(script, index) if each in left])
        commands.append(Skip(many, at=command.at) if many else command)
    return with_commands(script, commands)
