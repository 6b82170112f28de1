"""A second reading of the document for the tests to hold the program against: slow, and by itself."""

import functools
import itertools
import random

MIXES = ("no", "yes", "least", "most", "middle", "odd")
MANY = {"no": 1, "yes": 1, "least": 2, "most": 2, "middle": 3, "odd": 3}
YES_COUNTS = {"no": (), "yes": (0, 1), "least": (2,), "most": (1, 2), "middle": (2, 3), "odd": (1, 3)}


def slowly_mixed(mix, width, rows):
    """The mix place by place, by how many of the rows are yes there."""
    made = 0
    for place in range(width):
        count = len([row for row in rows if row & (1 << place)])
        if count in YES_COUNTS[mix]:
            made += 1 << place
    return made


def rows_of(width, table):
    """The rows of a table."""
    return [row for row in range(1 << width) if table & (1 << row)]


@functools.lru_cache(maxsize=None)
def slowly_kept(mix, width, table):
    """Whether a mix keeps a table, by trying all rows in all orders."""
    for chosen in itertools.product(rows_of(width, table), repeat=MANY[mix]):
        if not table & (1 << slowly_mixed(mix, width, chosen)):
            return False
    return True


def slowly_hulled(mix, width, table):
    """The hull of a table, by adding all mixes until none is new."""
    while not slowly_kept(mix, width, table):
        for chosen in itertools.product(rows_of(width, table), repeat=MANY[mix]):
            table |= 1 << slowly_mixed(mix, width, chosen)
    return table


def slowly_met(net, setting):
    """For each tie, whether a setting meets it, letter by letter."""
    letters = [setting & (1 << unknown) != 0 for unknown in range(net[0])]
    told = []
    for scope, table in net[1]:
        rows = [[row & (1 << place) != 0 for place in range(len(scope))] for row in rows_of(len(scope), table)]
        told.append([letters[unknown] for unknown in scope] in rows)
    return told


def meeting(net):
    """All settings that meet a net."""
    return [setting for setting in range(1 << net[0]) if all(slowly_met(net, setting))]


def some_table(chance, width):
    """A table of few, some or many rows."""
    share = chance.choice((1, 3, 5, 7))
    return sum(1 << row for row in range(1 << width) if chance.randrange(8) < share)


def some_net(chance, many, ties, mix=None):
    """A net with so many unknowns and ties; where a mix is named, it keeps the net."""
    told = []
    for number in range(ties):
        scope = tuple(chance.sample(range(many), chance.randint(1, min(4, many))))
        table = some_table(chance, len(scope))
        told.append((scope, table if mix is None else slowly_hulled(mix, len(scope), table)))
    return (many, tuple(told))


def some_nets(seed, count, most_unknowns, most_ties, mix=None):
    """Nets of many sizes, the same ones for the same seed."""
    chance = random.Random(seed)
    nets = []
    for number in range(count):
        many = chance.randint(1, most_unknowns)
        nets.append(some_net(chance, many, chance.randint(0, most_ties), mix))
    return nets
