"""The form of [80] and [81] told once more: all ways to read a line at once, to see how far any of them comes."""

from tests.samples import LETTERS

SIMPLE = ["has", "begins", "ends", "is", "only"]
PLAIN = ["print", "printfirst", "keep", "put", "putfirst", "forget", "forgetfirst", "read", "drop", "slide", "stop", "leave"]


class Ways:
    """How a line can be read: each method takes a place, and returns the set of places up to which it can be read."""

    def __init__(self, line):
        self.line, self.far = line, 0

    def letter(self, at, letters):
        if at < len(self.line) and self.line[at] in letters:
            self.far = max(self.far, at + 1)
            return {at + 1}
        return set()

    def word(self, at, word):
        places = {at}
        for letter in word:
            places = {end for place in places for end in self.letter(place, letter)}
        return places

    def row(self, at, *parts):
        """Parts one behind another: strings, and methods with their arguments in tuples."""
        places = {at}
        for part in parts:
            places = {end for place in places for end in (
                self.word(place, part) if isinstance(part, str) else part[0](place, *part[1:]))}
        return places

    def literal(self, at):
        found, places = set(), self.word(at, '"')
        while places:
            found |= {end for place in places for end in self.letter(place, '"')}
            plain = {end for place in places for end in self.letter(place, LETTERS.replace('"', "").replace("\\", ""))}
            escaped = {end for place in places for back in self.letter(place, "\\") for end in self.letter(back, '"\\')}
            places = plain | escaped
        return found

    def number(self, at):
        found = self.letter(at, "0")
        places = self.letter(at, "123456789")
        for _ in range(31):
            found |= places
            if _ < 30:
                places = {end for place in places for end in self.letter(place, "0123456789")}
        return found

    def test(self, at, depth):
        found = set()
        for word in SIMPLE:
            found |= self.row(at, word, " ", (self.literal,))
        if depth < 8:
            found |= self.row(at, "fails ", (self.test, depth + 1))
            for word in ("both ", "either "):
                found |= self.row(at, word, (self.test, depth + 1), " ", (self.test, depth + 1))
        return found

    def change(self, at):
        found = set()
        for word in ("first ", "every ", "swap "):
            found |= self.row(at, word, (self.literal,), " ", (self.literal,))
        return found | self.row(at, "front ", (self.literal,)) | self.row(at, "behind ", (self.literal,))

    def address(self, at, depth, is_any=True):
        found = self.row(at, "any") if is_any else set()
        for word in ("last", "changed", "kept"):
            found |= self.row(at, word)
        found |= self.row(at, "number ", (self.number,)) | self.row(at, "each ", (self.number,), " ", (self.number,))
        found |= self.row(at, "if ", (self.test, 1)) | self.row(at, "kept ", (self.test, 1))
        if depth < 8:
            found |= self.row(at, "not ", (self.address, depth + 1))
            start = self.row(at, "range ", (self.address, depth + 1), " ")
            for place in start:
                found |= self.address(place, depth + 1) | self.row(place, "count ", (self.number,))
        return found

    def command(self, at):
        found = set()
        for word in PLAIN:
            found |= self.row(at, word)
        found |= self.row(at, "change ", (self.change,)) | self.row(at, "skip ", (self.number,))
        found |= self.row(at, "tell ", (self.literal,)) | self.row(at, "later ", (self.literal,))
        return found | {end for place in found for end in self.row(place, " at ", (self.address, 1, False))}

    def head(self, at):
        found = self.row(at, "window ", (self.number,), " store ", (self.number,))
        return found | {end for place in found for end in self.word(place, " quiet")}


def place_of(line, is_head=False):
    """The place at which a line is stuck, None if it is right."""
    ways = Ways(line)
    found = ways.head(0) if is_head else ways.command(0)
    return None if len(line) in found else ways.far
