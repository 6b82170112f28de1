"""The promise over the whole, from a text to the outcome, held against all settings; and that nothing is changed."""

import itertools
import random
import unittest

from mixkeep.desk import Desk
from mixkeep.hulls import hull, hull_steps
from mixkeep.lines import read_net, shown_net
from mixkeep.mixes import breach, mixed
from mixkeep.nets import keepers, unmet
from mixkeep.outcomes import settled
from mixkeep.pairs import line_fault, paired
from mixkeep.pushes import push_fault, pushed
from mixkeep.terms import summed, term_fault
from slowly import (
    MANY, MIXES, dead_ties, first_kept_net, letters, meeting, slow_line_fault, slow_push_fault, slow_term_fault,
    some_net, some_nets,
)
from test_outcomes import OutcomeCase

NAMES = ("a", "ab", "b", "ba", "maybe", "n", "no", "nobody", "y", "yes", "zebra", "zzzzzzzzzzzz")


def text_of(chance, net):
    """A text that tells a net's ties; which unknown has which name is left to chance, and so is the rows' order."""
    named = chance.sample(NAMES, net[0])
    lines = []
    for scope, table in net[1]:
        rows = ["".join(letters(len(scope), row)) for row in range(1 << len(scope)) if table & (1 << row)]
        chance.shuffle(rows)
        lines.append(" ".join([named[unknown] for unknown in scope] + [":"] + rows))
    return "\n".join(lines)


def ties_of(text):
    """The names and rows of each line of a text, as texts."""
    lines = [line.split(" ") for line in text.split("\n")] if text else []
    return [(words[:words.index(":")], words[words.index(":") + 1:]) for words in lines]


def met_by(text):
    """All sets of names for which a text's lines hold, where just these names are yes."""
    ties = ties_of(text)
    names = sorted({name for named, rows in ties for name in named})
    found = []
    for values in itertools.product("ny", repeat=len(names)):
        value = dict(zip(names, values))
        if all("".join(value[name] for name in named) in rows for named, rows in ties):
            found.append({name for name in names if value[name] == "y"})
    return found


class FromTextToOutcome(OutcomeCase):
    def check_text(self, text):
        """Checks what is told of a text's net, by what the text says; gives back what it is called."""
        names, net = read_net(text)
        told = settled(net)
        found = met_by(text)
        settings = [sum(1 << names.index(name) for name in some) for some in found]
        self.check_outcome(net, told, settings)
        shown = self.check_shown(net, names, told)
        self.assertEqual(Desk(text).ask("settle"), shown, text)
        self.assertEqual(Desk(text).ask("keepers"), [" ".join(keepers(net))] if keepers(net) else [])
        if told.called() == "met":
            inside = shown[0][shown[0].index("{") + 1:-1]
            some = inside.split(" ") if inside else []
            self.assertEqual(some, sorted(some))
            self.assertIn(set(some), found, text)
            self.assertEqual(Desk(text).ask(" ".join(["meets"] + some)), ["yes"], text)
            self.check_bound(shown[0].split(" ")[1], set(some), found)
        return told.called()

    def check_bound(self, keeper, some, found):
        """Checks that the names told are the least, or the greatest, of all."""
        for other in found:
            if keeper in ("no", "least"):
                self.assertLessEqual(some, other)
            if keeper in ("yes", "most"):
                self.assertGreaterEqual(some, other)

    def test_the_empty_text(self):
        self.assertEqual(self.check_text(""), "met")

    def test_nets_of_all_kinds(self):
        for mix in MIXES:
            chance = random.Random(81)
            seen = {"met": 0, "shut": 0, "loose": 0}
            for number in range(60):
                net = first_kept_net(chance, chance.randint(3, 7), chance.randint(2, 11), mix, number % 2 == 0)
                seen[self.check_text(text_of(chance, net))] += 1
            self.assertGreater(min(seen["met"], seen["shut"]), 8, (mix, seen))
            self.assertEqual(seen["loose"], 0)

    def test_nets_that_a_mix_keeps_or_none(self):
        chance = random.Random(82)
        seen = {"met": 0, "shut": 0, "loose": 0}
        for mix in MIXES + (None, None):
            for net in some_nets(83, 60, 7, 7, mix):
                seen[self.check_text(text_of(chance, net))] += 1
        self.assertGreater(min(seen.values()), 15, seen)

    def test_the_widest_nets(self):
        chance = random.Random(84)
        for mix in MIXES:
            for met in (True, False):
                self.check_text(text_of(chance, first_kept_net(chance, 12, 24, mix, met)))
        self.check_text(text_of(chance, some_net(chance, 12, 24)))


class Papers(unittest.TestCase):
    """A paper without a fault, held against whatever net, leaves no setting that meets it."""

    def papers(self, net):
        for way in ("up", "down"):
            pushes, dead = pushed(net, way)
            if dead is not None:
                yield way, (pushes, dead)
        for way, told in (("pairs", paired(net)), ("terms", summed(net))):
            if told is not None and told[0] == "none":
                yield way, told[1]

    def holds(self, net, way, paper):
        """Whether a paper has no fault and leaves nothing, by the program; the second reading must say the same."""
        if way == "pairs":
            self.assertEqual(line_fault(net, paper), slow_line_fault(net, paper))
            return line_fault(net, paper) is None and paper[-1][2] == 0
        if way == "terms":
            self.assertEqual(term_fault(net, paper), slow_term_fault(net, paper))
            return term_fault(net, paper) is None
        pushes, dead = paper
        self.assertEqual(push_fault(net, way, pushes), slow_push_fault(net, way, pushes))
        known = [unknown for number, unknown in pushes]
        return push_fault(net, way, pushes) is None and dead in dead_ties(net, way, known)

    def test_papers_of_other_nets(self):
        chance = random.Random(85)
        held = {}
        for net in some_nets(86, 250, 5, 8) + some_nets(87, 100, 5, 8, "middle") + some_nets(88, 100, 5, 8, "odd"):
            for way, paper in self.papers(net):
                self.assertTrue(self.holds(net, way, paper))
                for number in range(6):
                    other = list(net[1])
                    place = chance.randrange(len(other))
                    scope, table = other[place]
                    other[place] = (scope, table ^ 1 << chance.randrange(1 << len(scope)))
                    changed = (net[0], tuple(other))
                    told = self.holds(changed, way, paper)
                    held[(way, told)] = held.get((way, told), 0) + 1
                    if told:
                        self.assertEqual(meeting(changed), [], (changed, way, paper))
        self.assertEqual(len(held), 8)
        self.assertGreater(min(held.values()), 20, held)


class MixesOfSettings(unittest.TestCase):
    def test_they_meet_a_kept_net(self):
        chance = random.Random(89)
        for mix in MIXES:
            unlike = 0
            for number in range(60):
                net = first_kept_net(chance, chance.randint(3, 7), chance.randint(2, 6), mix, True)
                settings = meeting(net)
                for again in range(25):
                    chosen = tuple(chance.choice(settings) for one in range(MANY[mix]))
                    made = mixed(mix, net[0], chosen)
                    self.assertIn(made, settings, (net, mix, chosen))
                    self.assertIsNone(unmet(net, made))
                    unlike += made not in chosen
            self.assertGreater(unlike, 20, mix)


class Unchanged(unittest.TestCase):
    def test_what_is_handed_in(self):
        """Lists in the place of tuples show whether anything is changed, where a list may be handed."""
        rows = [1, 2]
        mixed("least", 2, rows)
        self.assertEqual(rows, [1, 2])
        names = ["a", "b"]
        for net in ((2, (((0,), 0b10),)), (2, (((0, 1), 0),)), (2, (((0, 1), 0b0110),))):
            settled(net).shown(names)
            shown_net(names, net)
        self.assertEqual(names, ["a", "b"])

    def test_the_same_is_told_again(self):
        nets = [net for mix in MIXES + (None,) for net in some_nets(90, 10, 6, 6, mix)]
        self.assertEqual([all_told(net) for net in nets], [all_told(net) for net in nets])


def all_told(net):
    """Much of what is told of a net."""
    tables = [(len(scope), table) for scope, table in net[1]]
    of_tables = [
        (breach(mix, width, table), hull(mix, width, table), hull_steps(mix, width, table))
        for mix in MIXES for width, table in tables
    ]
    of_net = (keepers(net), pushed(net, "up"), pushed(net, "down"), paired(net), summed(net), vars(settled(net)))
    return (of_tables, of_net)


if __name__ == "__main__":
    unittest.main()
