"""Lines of pairs: which values two unknowns may have together, by a tie or by earlier lines."""

from mixkeep.mixes import places
from mixkeep.nets import unmet

ALL_PAIRS = 0b1111
SAME_PAIRS = 0b1001

# How long each why is, the word and its numbers.
WHY_LENGTHS = {"tie": 2, "self": 1, "join": 3, "both": 3, "turn": 2}


def pair_of(first, second):
    """The number of a pair of values, each 1 for yes and 0 for no."""
    return first + 2 * second


def tie_pairs(tie, x, y):
    """The pairs that a tie's rows have at two unknowns of its scope."""
    scope, table = tie
    first = scope.index(x)
    second = scope.index(y)
    found = 0
    for row in places(table):
        found |= 1 << pair_of(row >> first & 1, row >> second & 1)
    return found


def joined(first, second):
    """The pairs of (x, y) that pairs of (x, z) and of (z, y) leave open together."""
    found = 0
    for one in places(first):
        for other in places(second):
            if one >> 1 == other & 1:
                found |= 1 << pair_of(one & 1, other >> 1)
    return found


def turned_about(pairs):
    """The pairs of (y, x) for those of (x, y)."""
    return sum([1 << pair_of(pair >> 1, pair & 1) for pair in places(pairs)])


def open_by_tie(net, x, y, number):
    """The pairs that a tie leaves open, or None where it can say nothing of x and y."""
    ties = net[1]
    if not 0 <= number < len(ties):
        return None
    scope = ties[number][0]
    return tie_pairs(ties[number], x, y) if x in scope and y in scope else None


def open_by_lines(x, y, word, named):
    """The pairs that the lines named behind a word leave open, or None where they are not of the right unknowns."""
    first = named[0]
    # For a turn the first line is the last one, too.
    last = named[-1]
    if word == "turn" and first[:2] == (y, x):
        return turned_about(first[2])
    if word == "both" and first[:2] == (x, y) and last[:2] == (x, y):
        return first[2] & last[2]
    if word == "join" and first[0] == x and first[1] == last[0] and last[1] == y:
        return joined(first[2], last[2])
    return None


def left_open(net, lines, place):
    """The pairs that the why of the line at a place does not leave out, or None where it is no such why."""
    x, y, pairs, why = lines[place]
    if len(why) == 0 or WHY_LENGTHS.get(why[0]) != len(why):
        return None
    word = why[0]
    if word == "self":
        return SAME_PAIRS if x == y else None
    if word == "tie":
        return open_by_tie(net, x, y, why[1])
    # The numbers may be great, or those of later lines.
    if any([not 0 <= number < place for number in why[1:]]):
        return None
    return open_by_lines(x, y, word, [lines[number] for number in why[1:]])


def line_fault(net, lines):
    """The place of the first line at fault, or None."""
    for place, line in enumerate(lines):
        needed = left_open(net, lines, place)
        if needed is None or needed & line[2] != needed:
            return place
    return None


class Sheet:
    """Lines of pairs as they are found, and which of them is the narrowest of two unknowns."""

    def __init__(self):
        self.lines = []
        self.narrowest = {}

    def is_shut(self):
        """Whether the last line has no pairs."""
        return len(self.lines) > 0 and self.lines[-1][2] == 0

    def left(self, x, y):
        """The pairs that are left of two unknowns."""
        number = self.narrowest.get((x, y))
        return ALL_PAIRS if number is None else self.lines[number][2]

    def put(self, x, y, pairs, why):
        """Puts down a line."""
        self.narrowest[(x, y)] = len(self.lines)
        self.lines.append((x, y, pairs, why))

    def narrow(self, x, y, pairs, why):
        """Puts down what leaves out pairs that were left; nothing comes behind a line with no pairs."""
        left = self.left(x, y)
        if self.is_shut() or left & pairs == left:
            return
        earlier = self.narrowest.get((x, y))
        self.put(x, y, pairs, why)
        if left & pairs != pairs:
            self.put(x, y, left & pairs, ("both", earlier, len(self.lines) - 1))

    def join_by(self, x, z, y):
        """Narrows the unknowns x and y by their lines with z."""
        first = self.narrowest.get((x, z))
        second = self.narrowest.get((z, y))
        # Where one of the two has no line, a join could tell of x or of y alone, and their own lines tell that.
        if first is not None and second is not None:
            self.narrow(x, y, joined(self.left(x, z), self.left(z, y)), ("join", first, second))


def begun(net):
    """A sheet with what each tie tells by itself."""
    sheet = Sheet()
    for x in range(net[0]):
        sheet.narrow(x, x, SAME_PAIRS, ("self",))
    for number, tie in enumerate(net[1]):
        for x in tie[0]:
            for y in tie[0]:
                sheet.narrow(x, y, tie_pairs(tie, x, y), ("tie", number))
    return sheet


def join_all(sheet, many):
    """Narrows each two unknowns by each third one."""
    for x in range(many):
        for z in range(many):
            for y in range(many):
                sheet.join_by(x, z, y)


def fits(sheet, setting, unknown):
    """Whether the lines leave open what a setting has at an unknown and at each one up to it."""
    for other in range(unknown + 1):
        pair = pair_of(setting >> other & 1, setting >> unknown & 1)
        if not sheet.left(other, unknown) >> pair & 1:
            return False
    return True


def chosen_by(sheet, many):
    """A setting, chosen unknown by unknown, so that it goes with those ahead if one of the values does."""
    setting = 0
    for unknown in range(many):
        if not fits(sheet, setting, unknown):
            setting |= 1 << unknown
    return setting


def paired(net):
    """A setting that meets a net, or lines that end with no pairs; None where neither was found."""
    sheet = begun(net)
    before = -1
    while len(sheet.lines) != before:
        before = len(sheet.lines)
        join_all(sheet, net[0])
    if sheet.is_shut():
        return ("none", tuple(sheet.lines))
    # In a net kept by middle no choice is ever regretted, so only other nets may be left unmet here.
    setting = chosen_by(sheet, net[0])
    return ("set", setting) if unmet(net, setting) is None else None
