"""A desk that keeps lines and answers what is asked of their net."""

from mixkeep.errors import NoAsk, NoName, NoTie
from mixkeep.hulls import hull
from mixkeep.lines import is_name, lines_of, net_of, read_lines, shown_row, shown_tie
from mixkeep.mixes import TAKES, places
from mixkeep.nets import keepers, unmet
from mixkeep.outcomes import settled

MOST_FIGURES = 4


def is_number(word):
    """Whether a word is a number: a few figures, with no nought ahead of others."""
    if not 1 <= len(word) <= MOST_FIGURES or any([sign not in "0123456789" for sign in word]):
        return False
    return word == "0" or word[0] != "0"


def need(many, words):
    """Refuses words that are too few or too many."""
    if len(words) != many:
        raise NoAsk("words are lacking or too many")


def line_number(word, lines):
    """The number of one of the lines kept, or of their ties."""
    if not is_number(word):
        raise NoAsk("a number is lacking")
    number = int(word)
    if number >= len(lines):
        raise NoTie("no line kept has this number")
    return number


def setting_of(words, names):
    """The setting in which just the named unknowns are yes."""
    if any([not is_name(word) for word in words]):
        raise NoAsk("a name is lacking")
    if any([word not in names for word in words]):
        raise NoName("the net does not have this name")
    return sum([1 << unknown for unknown, name in enumerate(names) if name in words])


def keepers_told(net):
    """The keepers in one text; none where there is none."""
    kept = keepers(net)
    return [" ".join(kept)] if kept else []


def meets_told(names, net, words):
    """Whether the setting of the words meets a net, and else the first tie that it does not meet."""
    number = unmet(net, setting_of(words, names))
    return ["yes"] if number is None else ["no " + str(number)]


def hull_told(net, words):
    """The rows of the hull by a mix of a tie's table in one text; none where it is empty."""
    need(2, words)
    mix = words[0]
    if mix not in TAKES:
        raise NoAsk("a mix is lacking")
    scope, table = net[1][line_number(words[1], net[1])]
    rows = [shown_row(len(scope), row) for row in places(hull(mix, len(scope), table))]
    return [" ".join(rows)] if rows else []


def told_of(names, net, word, words):
    """The answer to a word that changes nothing, and the words behind it."""
    if word == "meets":
        return meets_told(names, net, words)
    if word == "hull":
        return hull_told(net, words)
    need(0, words)
    if word == "settle":
        return settled(net).shown(names)
    if word == "keepers":
        return keepers_told(net)
    if word == "net":
        return [shown_tie(names, scope, table) for scope, table in net[1]]
    raise NoAsk("no such word is asked")


class Desk:
    """Lines kept, and what is asked of them; each answer is a list of texts."""

    def __init__(self, text=""):
        self.lines = lines_of(text)
        # What can't be read is refused when the desk begins, not when it is first asked.
        read_lines(self.lines)

    def ask(self, line):
        """The answer to a line; what is refused changes nothing."""
        words = line.split(" ")
        if words[0] == "tell":
            return self.tell(words[1:])
        if words[0] == "drop":
            return self.drop(words[1:])
        names, net = net_of(self.lines)
        return told_of(names, net, words[0], words[1:])

    def tell(self, words):
        """Puts a line behind those kept."""
        if len(words) == 0:
            raise NoAsk("a line is lacking")
        lines = self.lines + [" ".join(words)]
        # All are read, as a line may be at fault by what stands ahead of it.
        read_lines(lines)
        self.lines = lines
        return []

    def drop(self, words):
        """Takes out a line kept."""
        need(1, words)
        number = line_number(words[0], self.lines)
        self.lines = self.lines[:number] + self.lines[number + 1:]
        return []
