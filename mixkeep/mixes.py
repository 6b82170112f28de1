"""The six mixes of rows, and the breaches of the tables that they don't keep."""

# The keys stand in the order of the mixes, by which a net's first keeper is told.
TAKES = {"no": 1, "yes": 1, "least": 2, "most": 2, "middle": 3, "odd": 3}


def places(mask):
    """The numbers of a set that is told by its mask, rising."""
    return [place for place in range(mask.bit_length()) if mask >> place & 1]


def takes(mix):
    """How many rows a mix takes."""
    return TAKES[mix]


def mixed(mix, width, rows):
    """The row that a mix makes of rows, as many as it takes."""
    if mix == "no":
        return 0
    if mix == "yes":
        return (1 << width) - 1
    if mix == "least":
        return rows[0] & rows[1]
    if mix == "most":
        return rows[0] | rows[1]
    if mix == "middle":
        return (rows[0] & rows[1]) | (rows[0] & rows[2]) | (rows[1] & rows[2])
    return rows[0] ^ rows[1] ^ rows[2]


def breach(mix, width, table):
    """Rows of a table whose mix is not in it; None where the mix keeps the table."""
    return breach_behind((), places(table), mix, width, table)


def breach_behind(chosen, rows, mix, width, table):
    """A breach that begins with the chosen rows and goes on with some of `rows`, or None."""
    if len(chosen) == takes(mix):
        return None if table >> mixed(mix, width, chosen) & 1 else chosen
    for start, row in enumerate(rows):
        # No mix hangs on the order of its rows, so it is enough to try them rising.
        found = breach_behind(chosen + (row,), rows[start:], mix, width, table)
        if found is not None:
            return found
    return None
