"""What settings meet, and which mixes keep a net."""

from mixkeep.mixes import TAKES, breach


def row_at(scope, setting):
    """The row of a setting at a scope."""
    return sum([1 << place for place, unknown in enumerate(scope) if setting >> unknown & 1])


def unmet(net, setting):
    """The number of the first tie that a setting does not meet, or None."""
    for number, tie in enumerate(net[1]):
        scope, table = tie
        if not table >> row_at(scope, setting) & 1:
            return number
    return None


def keeps(mix, net):
    """Whether a mix keeps all tables of a net."""
    return all([breach(mix, len(scope), table) is None for scope, table in net[1]])


def keepers(net):
    """The names of the mixes that keep a net, in the order of the mixes."""
    return tuple([mix for mix in TAKES if keeps(mix, net)])
