"""Hulls: the least tables that hold a table and are kept by a mix, and the steps that lead there."""

from mixkeep.mixes import breach, mixed


def hull(mix, width, table):
    """The mask of a table's hull by a mix."""
    return table + sum([1 << row for row, parts in hull_steps(mix, width, table)])


def hull_steps(mix, width, table):
    """The steps from a table to its hull by a mix, each a row that comes new and the rows it is mixed of."""
    whole = table
    steps = []
    parts = breach(mix, width, whole)
    while parts is not None:
        # A breach's mix is never in the table, so each step brings a row that was not there.
        row = mixed(mix, width, parts)
        steps.append((row, parts))
        whole += 1 << row
        parts = breach(mix, width, whole)
    return tuple(steps)
