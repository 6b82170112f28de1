"""Lines that tell ties, and nets read from texts and shown as texts."""

from mixkeep.errors import NoLine, TooMany, Twice, Unlike
from mixkeep.mixes import places

LONGEST_NAME = 12
MOST_NAMES_IN_LINE = 4
MOST_NAMES = 12
MOST_LINES = 24


def is_name(word):
    """Whether a word is a name."""
    return 1 <= len(word) <= LONGEST_NAME and all(["a" <= sign <= "z" for sign in word])


def is_row(word):
    """Whether a word is a row, of whatever width."""
    return len(word) > 0 and all([sign in "yn" for sign in word])


def is_line(words):
    """Whether words are names, a colon and rows, however many and long and alike."""
    if ":" not in words:
        return False
    colon = words.index(":")
    names = words[:colon]
    rows = words[colon + 1:]
    return len(names) > 0 and all([is_name(word) for word in names]) and all([is_row(word) for word in rows])


def some_twice(words):
    """Whether two of the words are alike."""
    return len(set(words)) < len(words)


def row_of(word):
    """The number of a row that is told by letters."""
    return sum([1 << place for place, sign in enumerate(word) if sign == "y"])


def read_line(text, line=0):
    """A line's names and its rows' numbers; a refusal bears `line`."""
    words = text.split(" ")
    if not is_line(words):
        raise NoLine(line)
    colon = words.index(":")
    names = words[:colon]
    rows = words[colon + 1:]
    if len(names) > MOST_NAMES_IN_LINE:
        raise TooMany(line)
    if some_twice(names):
        raise Twice(line)
    if any([len(word) != len(names) for word in rows]):
        raise Unlike(line)
    if some_twice(rows):
        raise Twice(line)
    return (tuple(names), tuple(sorted([row_of(word) for word in rows])))


def all_names(told):
    """The names of lines that were read, each once, rising."""
    found = {}
    for names, rows in told:
        for name in names:
            found[name] = True
    return tuple(sorted(found))


def lines_of(text):
    """The lines of a net's text; the empty text has none, though a split makes an empty one of it."""
    return text.split("\n") if text != "" else []


def read_lines(lines):
    """What `read_line` tells of each of a net's lines."""
    told = []
    for number, line in enumerate(lines):
        told.append(read_line(line, number))
        # A line's own faults go first, so this is asked only of a line that could be read.
        if len(told) > MOST_LINES or len(all_names(told)) > MOST_NAMES:
            raise TooMany(number)
    return told


def tie_of(known, names, rows):
    """The tie of a line that was read; `known` are all names of the net, rising."""
    scope = tuple([known.index(name) for name in names])
    return (scope, sum([1 << row for row in rows]))


def net_of(lines):
    """The names of a net's lines, rising, and their net."""
    told = read_lines(lines)
    known = all_names(told)
    ties = tuple([tie_of(known, names, rows) for names, rows in told])
    return (known, (len(known), ties))


def read_net(text):
    """The names of a net's text, rising, and its net."""
    return net_of(lines_of(text))


def shown_row(width, row):
    """A row's letters."""
    return "".join(["y" if row >> place & 1 else "n" for place in range(width)])


def shown_tie(names, scope, table):
    """A tie's line."""
    rows = [shown_row(len(scope), row) for row in places(table)]
    return " ".join([names[unknown] for unknown in scope] + [":"] + rows)


def shown_net(names, net):
    """A net's text."""
    return "\n".join([shown_tie(names, scope, table) for scope, table in net[1]])
