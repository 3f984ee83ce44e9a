"""The limits of words, lines, scripts and questions."""

# Letters of a word, and of the line of an Is.
MAX_WORD = 8
MAX_LINE = 20

# Tests, or addresses, within one another.
MAX_DEPTH = 8

MAX_COMMANDS = 12
MAX_ROOM = 3
MAX_CLASSES = 32

# Blocks of a long text, lines of a block, and how often a block may stand there.
MAX_BLOCKS = 10
MAX_LINES = 4
MAX_TIMES = 10 ** 30
