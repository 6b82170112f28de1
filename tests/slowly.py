"""A second reading of the document for the tests to hold the program against: slow, and by itself."""

import functools
import itertools
import random

MIXES = ("no", "yes", "least", "most", "middle", "odd")
MANY = {"no": 1, "yes": 1, "least": 2, "most": 2, "middle": 3, "odd": 3}
# Ties of the unknowns 0 to 2 that this mix keeps, and no mix ahead of it.
FIRST_KEPT = {
    "no": (),
    "yes": (((0,), 0b10),),
    "least": (((0,), 0b10), ((1,), 0b01)),
    "most": (((0, 1), 0b1110), ((2,), 0b01)),
    "middle": (((0, 1), 0b0110),),
    "odd": (((0, 1), 0b0110), ((0, 1, 2), 0b10010110)),
}
YES_COUNTS = {"no": (), "yes": (0, 1), "least": (2,), "most": (1, 2), "middle": (2, 3), "odd": (1, 3)}


def slowly_mixed(mix, width, rows):
    """The mix place by place, by how many of the rows are yes there."""
    made = 0
    for place in range(width):
        count = len([row for row in rows if row & (1 << place)])
        if count in YES_COUNTS[mix]:
            made += 1 << place
    return made


def rows_of(width, table):
    """The rows of a table."""
    return [row for row in range(1 << width) if table & (1 << row)]


@functools.lru_cache(maxsize=None)
def slowly_kept(mix, width, table):
    """Whether a mix keeps a table, by trying all rows in all orders."""
    for chosen in itertools.product(rows_of(width, table), repeat=MANY[mix]):
        if not table & (1 << slowly_mixed(mix, width, chosen)):
            return False
    return True


def slowly_hulled(mix, width, table):
    """The hull of a table, by adding all mixes until none is new."""
    while not slowly_kept(mix, width, table):
        for chosen in itertools.product(rows_of(width, table), repeat=MANY[mix]):
            table |= 1 << slowly_mixed(mix, width, chosen)
    return table


def letters(width, row):
    """The letters of a row, or of a setting."""
    return ["y" if row & (1 << place) else "n" for place in range(width)]


def lettered(net):
    """The scopes of a net, each with its rows letter by letter."""
    return [(scope, [letters(len(scope), row) for row in rows_of(len(scope), table)]) for scope, table in net[1]]


def slowly_met(net, setting):
    """For each tie, whether a setting meets it, letter by letter."""
    told = letters(net[0], setting)
    return [[told[unknown] for unknown in scope] in rows for scope, rows in lettered(net)]


def meeting(net):
    """All settings that meet a net."""
    ties = lettered(net)
    found = []
    for setting in range(1 << net[0]):
        told = letters(net[0], setting)
        if all([told[unknown] for unknown in scope] in rows for scope, rows in ties):
            found.append(setting)
    return found


def slowly_live(way, tie, known):
    """The rows of a tie that have the way's letter at each place of a known unknown."""
    letter = {"up": "y", "down": "n"}[way]
    scope, table = tie
    live = []
    for row in rows_of(len(scope), table):
        told = letters(len(scope), row)
        if [told[place] for place in range(len(scope)) if scope[place] in known and told[place] != letter] == []:
            live.append(told)
    return live


def slowly_pushes(way, tie, known):
    """The unknowns that a tie pushes."""
    letter = {"up": "y", "down": "n"}[way]
    live = slowly_live(way, tie, known)
    found = []
    for place, unknown in enumerate(tie[0]):
        if unknown not in known and live and {told[place] for told in live} == {letter}:
            found.append(unknown)
    return found


def slow_push_fault(net, way, pushes):
    known = []
    for place, (number, unknown) in enumerate(pushes):
        if number not in range(len(net[1])) or unknown not in slowly_pushes(way, net[1][number], known):
            return place
        known.append(unknown)
    return None


def all_pushes(net, way, known):
    """All pairs that could be pushed next."""
    return [(number, unknown) for number, tie in enumerate(net[1]) for unknown in slowly_pushes(way, tie, known)]


def dead_ties(net, way, known):
    return [number for number, tie in enumerate(net[1]) if not slowly_live(way, tie, known)]


def pairs_of(mask):
    """The pairs of letters that a mask of pair numbers tells."""
    return {("ny"[pair & 1], "ny"[pair >> 1]) for pair in range(4) if mask & (1 << pair)}


def slowly_open(net, lines, place):
    """The pairs of letters that a line's why does not leave out, or None where it is none of those told."""
    x, y, pairs, why = lines[place]
    earlier = range(place)
    match why:
        case ("tie", number) if number in range(len(net[1])) and {x, y} <= set(net[1][number][0]):
            scope, table = net[1][number]
            rows = [dict(zip(scope, letters(len(scope), row))) for row in rows_of(len(scope), table)]
            return {(row[x], row[y]) for row in rows}
        case ("self",) if x == y:
            return {("n", "n"), ("y", "y")}
        case ("join", i, j) if i in earlier and j in earlier:
            if (lines[i][0], lines[j][0], lines[j][1]) == (x, lines[i][1], y):
                return {(a, d) for a, b in pairs_of(lines[i][2]) for c, d in pairs_of(lines[j][2]) if b == c}
        case ("both", i, j) if i in earlier and j in earlier:
            if (lines[i][:2], lines[j][:2]) == ((x, y), (x, y)):
                return pairs_of(lines[i][2]) & pairs_of(lines[j][2])
        case ("turn", i) if i in earlier:
            if lines[i][:2] == (y, x):
                return {(b, a) for a, b in pairs_of(lines[i][2])}
    return None


def slow_line_fault(net, lines):
    for place, line in enumerate(lines):
        needed = slowly_open(net, lines, place)
        if needed is None or needed - pairs_of(line[2]):
            return place
    return None


def slowly_a_term(net, number, some, parity):
    """Whether three numbers are a term, counted row by row."""
    unknowns = [unknown for unknown in range(some.bit_length()) if some & (1 << unknown)]
    if number not in range(len(net[1])) or parity not in (0, 1) or set(unknowns) - set(net[1][number][0]):
        return False
    scope, table = net[1][number]
    rows = [dict(zip(scope, letters(len(scope), row))) for row in rows_of(len(scope), table)]
    return all([row[unknown] for unknown in unknowns].count("y") % 2 == parity for row in rows)


def slow_term_fault(net, terms):
    for place, term in enumerate(terms):
        if not slowly_a_term(net, *term):
            return place
    for unknown in range(net[0]):
        if len([term for term in terms if term[1] & (1 << unknown)]) % 2 == 1:
            return len(terms)
    return len(terms) if sum(parity for number, some, parity in terms) % 2 == 0 else None


def some_table(chance, width):
    """A table of few, some or many rows."""
    share = chance.choice((1, 3, 5, 7))
    return sum(1 << row for row in range(1 << width) if chance.randrange(8) < share)


def some_net(chance, many, ties, mix=None):
    """A net with so many unknowns and ties; where a mix is named, it keeps the net."""
    told = []
    for number in range(ties):
        scope = tuple(chance.sample(range(many), chance.randint(1, min(4, many))))
        table = some_table(chance, len(scope))
        told.append((scope, table if mix is None else slowly_hulled(mix, len(scope), table)))
    return (many, tuple(told))


def some_nets(seed, count, most_unknowns, most_ties, mix=None):
    """Nets of many sizes, the same ones for the same seed."""
    chance = random.Random(seed)
    nets = []
    for number in range(count):
        many = chance.randint(1, most_unknowns)
        nets.append(some_net(chance, many, chance.randint(0, most_ties), mix))
    return nets


def planted_net(chance, many, ties, mix, setting):
    """A net with so many unknowns and ties that a mix keeps, and that a setting meets."""
    told = []
    for number in range(ties):
        scope = tuple(chance.sample(range(many), chance.randint(1, min(4, many))))
        row = sum(1 << place for place, unknown in enumerate(scope) if setting & (1 << unknown))
        table = some_table(chance, len(scope)) | 1 << row
        told.append((scope, slowly_hulled(mix, len(scope), table)))
    return (many, tuple(told))


def first_kept_net(chance, many, ties, mix, met):
    """A net of at least three unknowns with this mix as its first keeper; where it is to be met, some setting does."""
    begun = FIRST_KEPT[mix]
    if met:
        net = planted_net(chance, many, ties - len(begun), mix, chance.choice(meeting((many, begun))))
    else:
        net = some_net(chance, many, ties - len(begun), mix)
    told = list(begun + net[1])
    chance.shuffle(told)
    return (many, tuple(told))
