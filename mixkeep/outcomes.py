"""Settled nets: met by a setting, shut by a paper, or loose by six breaches."""

from mixkeep.lines import shown_row
from mixkeep.mixes import TAKES, breach, places
from mixkeep.nets import keepers
from mixkeep.pairs import paired
from mixkeep.pushes import pushed
from mixkeep.terms import summed

# The way of the pushes that settle a net, for the first keepers that are settled so.
WAYS = {"no": "up", "yes": "up", "least": "up", "most": "down"}


class Outcome:
    """What is told of a net."""

    def called(self):
        """One word for it."""
        raise NotImplementedError()

    def shown(self, names):
        """Its rows, a list of texts."""
        raise NotImplementedError()


class Met(Outcome):
    """A setting meets the net."""

    def __init__(self, keeper, setting):
        self.keeper = keeper
        self.setting = setting

    def called(self):
        """One word for it."""
        return "met"

    def shown(self, names):
        """The keeper, and the names that are yes."""
        told = " ".join([names[unknown] for unknown in places(self.setting)])
        return ["met " + self.keeper + " {" + told + "}"]


class Shut(Outcome):
    """No setting meets the net, as its paper proves."""

    def __init__(self, keeper, paper):
        self.keeper = keeper
        self.paper = paper

    def called(self):
        """One word for it."""
        return "shut"

    def shown(self, names):
        """The keeper, and how many steps the paper has."""
        steps = self.paper[0] if self.keeper in WAYS else self.paper
        return ["shut " + self.keeper + " " + str(len(steps))]


class Loose(Outcome):
    """No mix keeps the net; each of the breaches is shown with the width of its tie."""

    def __init__(self, breaches, widths):
        self.breaches = breaches
        self.widths = widths

    def called(self):
        """One word for it."""
        return "loose"

    def shown(self, names):
        """A row for each mix, with the tie and the rows of its breach."""
        told = ["loose"]
        for mix, found, width in zip(list(TAKES), self.breaches, self.widths):
            rows = [shown_row(width, row) for row in found[1]]
            told.append(" ".join([mix, str(found[0])] + rows))
        return told


def pushed_setting(net, keeper, pushes):
    """The setting that meets a net settled by pushes, none of whose ties is dead behind them."""
    everything = (1 << net[0]) - 1
    if keeper == "yes":
        # Pushes up would tell the least one, but of a net kept by yes that of all is promised.
        return everything
    known = sum([1 << unknown for number, unknown in pushes])
    return known if WAYS[keeper] == "up" else everything - known


def by_pushes(net, keeper):
    """The outcome of a net whose first keeper is no, yes, least or most."""
    # A tie with an empty table is dead ahead of all pushes; for no and yes no other tie can be.
    pushes, dead = pushed(net, WAYS[keeper])
    if dead is not None:
        return Shut(keeper, (pushes, dead))
    return Met(keeper, pushed_setting(net, keeper, pushes))


def first_breach(mix, net):
    """The first tie that a mix does not keep, with a breach of its table; or None."""
    for number, tie in enumerate(net[1]):
        found = breach(mix, len(tie[0]), tie[1])
        if found is not None:
            return (number, found)
    return None


def loosened(net):
    """The outcome of a net without a keeper."""
    breaches = tuple([first_breach(mix, net) for mix in TAKES])
    return Loose(breaches, tuple([len(net[1][number][0]) for number, rows in breaches]))


def settled(net):
    """The outcome of a net."""
    kept = keepers(net)
    if not kept:
        return loosened(net)
    keeper = kept[0]
    if keeper in WAYS:
        return by_pushes(net, keeper)
    word, told = paired(net) if keeper == "middle" else summed(net)
    return Met(keeper, told) if word == "set" else Shut(keeper, told)
