"""Long texts as blocks: tuples (lines, times), lines a tuple of one or more lines, times an integer from 1 on.

What these functions are given stays as it is.
"""

from linestream.limits import MAX_LINES, MAX_TIMES
from linestream.lines import is_text
from linestream.values import is_counting


def is_block(value):
    """Whether any value is a block that a caller may hand in."""
    if not isinstance(value, tuple) or len(value) != 2:
        return False
    lines, times = value
    return is_text(lines) and 1 <= len(lines) <= MAX_LINES and is_counting(times) and times <= MAX_TIMES


def length_of(blocks):
    return sum([len(lines) * times for lines, times in blocks])


def piece(lines, low, high):
    """The blocks of what stands from index low up to high, which is left out, where lines are repeated."""
    many = len(lines)
    first = (low + many - 1) // many
    last = high // many
    if first > last:
        found = [(lines[low % many:high % many], 1)]
    else:
        found = [(lines[low % many:] if low % many else (), 1), (lines, last - first), (lines[:high % many], 1)]
    return [(some, times) for some, times in found if some and times]


def cut(blocks, low, high):
    """The blocks of the lines from index low up to high, which is left out."""
    found = []
    start = 0
    for lines, times in blocks:
        end = start + len(lines) * times
        if low < end and start < high:
            found.extend(piece(lines, max(low, start) - start, min(high, end) - start))
        start = end
    return tuple(found)


def written_out(blocks):
    """All lines of blocks."""
    return [line for lines, times in blocks for _ in range(times) for line in lines]


def line_at_index(blocks, index):
    return written_out(cut(blocks, index, index + 1))[0]


def first_unlike(one, other, at, place, many):
    """How many lines are equal, of at most so many, of lines that are repeated, from these indexes on."""
    for ahead in range(many):
        if one[(at + ahead) % len(one)] != other[(place + ahead) % len(other)]:
            return ahead
    return many


def unlike_index(one, other):
    """The first index with which two texts have unlike lines, or only one of them has a line; None if there is none."""
    start = 0
    at = 0
    place = 0
    end = min(length_of(one), length_of(other))
    ends = block_ends(one)
    others = block_ends(other)
    while start < end:
        lines = one[at][0]
        more = other[place][0]
        until = min(ends[at], others[place])
        # Lines that are repeated and equal for as long as both together are equal for ever.
        many = min(until - start, len(lines) + len(more))
        low = start - ends[at] + len(lines) * one[at][1]
        high = start - others[place] + len(more) * other[place][1]
        alike = first_unlike(lines, more, low, high, many)
        if alike < many:
            return start + alike
        at = at + (1 if ends[at] == until else 0)
        place = place + (1 if others[place] == until else 0)
        start = until
    return None if length_of(one) == length_of(other) else end


def block_ends(blocks):
    """For each block how many lines there are up to its end."""
    ends = []
    end = 0
    for lines, times in blocks:
        end = end + len(lines) * times
        ends.append(end)
    return ends
