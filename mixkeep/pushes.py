"""Pushes up and down: what must be yes, or no, by one tie after the other."""

from mixkeep.mixes import places
from mixkeep.nets import row_at


def turned(way, width, row):
    """The row as it stands (up), or with yes and no in each other's place (down), so that both ways push to yes."""
    return row if way == "up" else (1 << width) - 1 - row


def live_rows(tie, way, known):
    """The rows of a tie, turned by the way, that go with all that is known; the tie is dead where there is none."""
    scope, table = tie
    needed = row_at(scope, known)
    rows = [turned(way, len(scope), row) for row in places(table)]
    return [row for row in rows if row & needed == needed]


def pushed_by(tie, way, known):
    """The unknowns that a tie pushes, in the order of its scope."""
    live = live_rows(tie, way, known)
    if not live:
        # A dead tie pushes nothing, though what is asked of each row would hold where there is no row.
        return []
    shared = live[0]
    for row in live:
        shared &= row
    return [unknown for place, unknown in enumerate(tie[0]) if shared >> place & 1 and not known >> unknown & 1]


def dead_tie(net, way, known):
    """The number of the first dead tie, or None."""
    for number, tie in enumerate(net[1]):
        if not live_rows(tie, way, known):
            return number
    return None


def first_push(net, way, known):
    """The number of the first tie that pushes, with an unknown that it pushes; or None."""
    for number, tie in enumerate(net[1]):
        found = pushed_by(tie, way, known)
        if found:
            return (number, found[0])
    return None


def is_push(net, way, known, push):
    """Whether a pair of whole numbers, however great, is a tie's number and an unknown that this tie pushes."""
    number, unknown = push
    ties = net[1]
    return 0 <= number < len(ties) and unknown in pushed_by(ties[number], way, known)


def push_fault(net, way, pushes):
    """The place of the first pair at fault in a row of pushes, or None."""
    known = 0
    for place, push in enumerate(pushes):
        if not is_push(net, way, known, push):
            return place
        known |= 1 << push[1]
    return None


def pushed(net, way):
    """Pushes without a fault, and a tie that is dead behind them; or None for it, where nothing is left to push."""
    known = 0
    pushes = []
    dead = dead_tie(net, way, known)
    push = first_push(net, way, known)
    while dead is None and push is not None:
        pushes.append(push)
        known |= 1 << push[1]
        dead = dead_tie(net, way, known)
        push = first_push(net, way, known)
    return (tuple(pushes), dead)
