"""Lines of pairs: their first fault, and what is told of a net by them."""

import itertools
import random
import unittest

from mixkeep.pairs import line_fault, paired
from slowly import (
    letters, meeting, pairs_of, planted_net, slow_line_fault, slowly_hulled, slowly_kept, slowly_met, slowly_open,
    some_net, some_nets,
)

GREAT = (24, 25, 300, 3000, 1 << 31, 1 << 63, 1 << 64, 10 ** 19, 10 ** 59, 10 ** 60 - 1)
SCOPES = ((0, 1), (1, 2), (0, 2), (1, 0), (2, 1), (2, 0))
UNLIKE = 0b0110
IMPLIED = 0b1101


def kept_by_middle(net):
    return all(slowly_kept("middle", len(scope), table) for scope, table in net[1])


def free_net(tables):
    """A net of three unknowns with these tables at the first scopes; a table's rows are numbered like pairs."""
    return (3, tuple(zip(SCOPES, tables)))


class Case(unittest.TestCase):
    def fault(self, net, lines, due):
        told = line_fault(net, lines)
        self.assertIs(type(told), type(due), (net, lines, told))
        self.assertEqual(told, due, (net, lines))
        self.assertEqual(slow_line_fault(net, lines), due, (net, lines))

    def kept_just_where(self, net, ahead, x, y, why, needed):
        """Checks that behind lines without a fault a line has none just where its pairs hold those needed."""
        for pairs in range(16):
            due = None if pairs & needed == needed else len(ahead)
            self.fault(net, ahead + ((x, y, pairs, why),), due)

    def never_kept(self, net, ahead, x, y, why):
        """Checks that behind lines without a fault a line is at fault, whatever its pairs."""
        self.fault(net, ahead, None)
        for pairs in (0, 6, 9, 15):
            self.fault(net, ahead + ((x, y, pairs, why),), len(ahead))


class NoLines(Case):
    def test_no_lines(self):
        for net in ((0, ()), (1, ()), (12, ()), (1, (((0,), 0),)), free_net((6, 6, 6))):
            self.fault(net, (), None)


class ByTie(Case):
    def test_every_table_of_two(self):
        for table in range(16):
            turned = sum(1 << pair for pair in range(4) if table & (1 << (pair >> 1 | (pair & 1) << 1)))
            first = (1 if table & 0b0101 else 0) + (8 if table & 0b1010 else 0)
            second = (1 if table & 0b0011 else 0) + (8 if table & 0b1100 else 0)
            net = (3, (((0, 2), table),))
            self.kept_just_where(net, (), 0, 2, ("tie", 0), table)
            self.kept_just_where(net, (), 2, 0, ("tie", 0), turned)
            self.kept_just_where(net, (), 0, 0, ("tie", 0), first)
            self.kept_just_where(net, (), 2, 2, ("tie", 0), second)

    def test_one_unknown(self):
        for table, needed in ((0b00, 0), (0b01, 1), (0b10, 8), (0b11, 9)):
            self.kept_just_where((1, (((0,), table),)), (), 0, 0, ("tie", 0), needed)

    def test_an_empty_table(self):
        net = (4, (((0, 1), 15), ((3, 1, 0), 0)))
        for x, y in itertools.product((0, 1, 3), repeat=2):
            self.kept_just_where(net, (), x, y, ("tie", 1), 0)

    def test_wide_ties(self):
        chance = random.Random(21)
        for number in range(60):
            net = some_net(chance, 12, 3)
            for tie, (scope, table) in enumerate(net[1]):
                for x, y in itertools.product(scope, repeat=2):
                    rows = [row for row in range(1 << len(scope)) if table & (1 << row)]
                    told = [letters(len(scope), row) for row in rows]
                    found = {(row[scope.index(x)], row[scope.index(y)]) for row in told}
                    needed = sum(1 << pair for pair in range(4) if pairs_of(1 << pair) <= found)
                    self.kept_just_where(net, (), x, y, ("tie", tie), needed)

    def test_no_ties_number(self):
        net = (2, (((0, 1), 0), ((0, 1), 15)))
        for number in (2, 3) + GREAT:
            self.never_kept(net, (), 0, 1, ("tie", number))
            self.never_kept(net, ((0, 1, 0, ("tie", 0)),) * 5, 0, 1, ("tie", number))
        self.never_kept((2, ()), (), 0, 1, ("tie", 0))

    def test_not_in_the_scope(self):
        net = (5, (((3, 1), 0), ((0, 2, 4), 0)))
        for x, y in itertools.product(range(5), repeat=2):
            for number, inside in ((0, (1, 3)), (1, (0, 2, 4))):
                if x in inside and y in inside:
                    self.kept_just_where(net, (), x, y, ("tie", number), 0)
                else:
                    self.never_kept(net, (), x, y, ("tie", number))


class BySelf(Case):
    def test_x_is_y(self):
        for net in ((1, ()), (12, ()), (12, (((0,), 0),))):
            for x in {0, net[0] - 1}:
                self.kept_just_where(net, (), x, x, ("self",), 0b1001)

    def test_x_is_another(self):
        for x, y in itertools.permutations(range(4), 2):
            self.never_kept((4, ()), (), x, y, ("self",))


class ByJoin(Case):
    def test_all_pairs(self):
        for first, second in itertools.product(range(16), repeat=2):
            needed = 0
            for a, b, c in itertools.product((0, 1), repeat=3):
                if first & (1 << a + 2 * b) and second & (1 << b + 2 * c):
                    needed |= 1 << a + 2 * c
            net = free_net((first, second))
            ahead = ((1, 2, second, ("tie", 1)), (0, 1, first, ("tie", 0)))
            self.kept_just_where(net, ahead, 0, 2, ("join", 1, 0), needed)

    def test_by_hand(self):
        net = free_net((UNLIKE, UNLIKE))
        ahead = ((0, 1, UNLIKE, ("tie", 0)), (1, 2, UNLIKE, ("tie", 1)))
        self.kept_just_where(net, ahead, 0, 2, ("join", 0, 1), 0b1001)
        net = free_net((IMPLIED, IMPLIED))
        ahead = ((0, 1, IMPLIED, ("tie", 0)), (1, 2, IMPLIED, ("tie", 1)))
        self.kept_just_where(net, ahead, 0, 2, ("join", 0, 1), IMPLIED)

    def test_unknowns_alike(self):
        net = (2, (((0, 1), 0b0100), ((1, 0), 0b0010)))
        ahead = ((0, 1, 0b0100, ("tie", 0)), (1, 0, 0b0010, ("tie", 1)), (0, 0, 0b1001, ("self",)))
        self.kept_just_where(net, ahead, 0, 0, ("join", 0, 1), 0b0001)
        self.kept_just_where(net, ahead, 1, 1, ("join", 1, 0), 0b1000)
        self.kept_just_where(net, ahead, 0, 1, ("join", 2, 0), 0b0100)
        self.kept_just_where(net, ahead, 1, 0, ("join", 1, 2), 0b0010)
        self.kept_just_where(net, ahead, 0, 0, ("join", 2, 2), 0b1001)

    def test_other_unknowns(self):
        net = free_net((0, 0, 0, 0, 0, 0))
        ahead = tuple((x, y, 0, ("tie", t)) for t, (x, y) in enumerate(SCOPES))
        ahead += tuple((x, x, 9, ("self",)) for x in range(3))
        for i, j in itertools.product(range(len(ahead)), repeat=2):
            for x, y in itertools.product(range(3), repeat=2):
                if ahead[i][0] == x and ahead[j][1] == y and ahead[i][1] == ahead[j][0]:
                    self.fault(net, ahead + ((x, y, 15, ("join", i, j)),), None)
                else:
                    self.never_kept(net, ahead, x, y, ("join", i, j))

    def test_no_earlier_line(self):
        net = (1, (((0,), 0),))
        ahead = ((0, 0, 0, ("tie", 0)),) * 3
        for number in (3, 4) + GREAT:
            self.never_kept(net, ahead, 0, 0, ("join", number, 0))
            self.never_kept(net, ahead, 0, 0, ("join", 0, number))
            self.never_kept(net, ahead, 0, 0, ("join", number, number))


class ByBoth(Case):
    def test_all_pairs(self):
        for first, second in itertools.product(range(16), repeat=2):
            net = (2, (((0, 1), first), ((0, 1), second)))
            ahead = ((0, 1, first, ("tie", 0)), (0, 1, second, ("tie", 1)))
            self.kept_just_where(net, ahead, 0, 1, ("both", 0, 1), first & second)
            self.kept_just_where(net, ahead, 0, 1, ("both", 1, 0), first & second)
            self.kept_just_where(net, ahead, 0, 1, ("both", 1, 1), second)

    def test_unknowns_alike(self):
        net = (1, (((0,), 0b10), ((0,), 0b01)))
        ahead = ((0, 0, 8, ("tie", 0)), (0, 0, 1, ("tie", 1)))
        self.kept_just_where(net, ahead, 0, 0, ("both", 0, 1), 0)

    def test_other_unknowns(self):
        net = free_net((0, 0, 0, 0, 0, 0))
        ahead = tuple((x, y, 0, ("tie", t)) for t, (x, y) in enumerate(SCOPES))
        ahead += ((0, 1, 15, ("both", 0, 0)), (1, 1, 15, ("self",)))
        for i, j in itertools.product(range(len(ahead)), repeat=2):
            for x, y in itertools.product(range(3), repeat=2):
                if ahead[i][:2] == ahead[j][:2] == (x, y):
                    self.fault(net, ahead + ((x, y, 15, ("both", i, j)),), None)
                else:
                    self.never_kept(net, ahead, x, y, ("both", i, j))

    def test_no_earlier_line(self):
        net = (2, (((0, 1), 0),))
        ahead = ((0, 1, 0, ("tie", 0)),) * 2
        for number in (2, 3) + GREAT:
            self.never_kept(net, ahead, 0, 1, ("both", number, 1))
            self.never_kept(net, ahead, 0, 1, ("both", 1, number))
            self.never_kept(net, ahead, 0, 1, ("both", number, number))


class ByTurn(Case):
    def test_all_pairs(self):
        for pairs in range(16):
            needed = pairs & 0b1001 | (pairs & 0b0010) << 1 | (pairs & 0b0100) >> 1
            net = (2, (((1, 0), pairs),))
            self.kept_just_where(net, ((1, 0, pairs, ("tie", 0)),), 0, 1, ("turn", 0), needed)

    def test_unknowns_alike(self):
        for table, pairs in ((0b00, 0), (0b01, 1), (0b10, 8), (0b11, 9)):
            net = (2, (((1,), table),))
            self.kept_just_where(net, ((1, 1, pairs, ("tie", 0)),), 1, 1, ("turn", 0), pairs)

    def test_other_unknowns(self):
        net = free_net((0, 0, 0, 0, 0, 0))
        ahead = tuple((x, y, 0, ("tie", t)) for t, (x, y) in enumerate(((0, 1), (1, 2), (0, 2))))
        ahead += ((2, 2, 15, ("self",)),)
        for i in range(len(ahead)):
            for x, y in itertools.product(range(3), repeat=2):
                if ahead[i][:2] == (y, x):
                    self.fault(net, ahead + ((x, y, 15, ("turn", i)),), None)
                else:
                    self.never_kept(net, ahead, x, y, ("turn", i))

    def test_no_earlier_line(self):
        net = (1, (((0,), 0),))
        for many in (0, 1, 4):
            ahead = ((0, 0, 0, ("tie", 0)),) * many
            for number in (many, many + 1) + GREAT:
                self.never_kept(net, ahead, 0, 0, ("turn", number))


class OtherWhys(Case):
    def test_none_of_these(self):
        net = (1, (((0,), 0),))
        ahead = ((0, 0, 0, ("tie", 0)), (0, 0, 9, ("self",)))
        whys = (
            (), ("tie",), ("tie", 0, 0), ("self", 0), ("self", 0, 1), ("join",), ("join", 0), ("join", 0, 1, 0),
            ("both",), ("both", 0), ("both", 0, 0, 0), ("turn",), ("turn", 0, 0), ("",), ("", 0), ("Tie", 0),
            ("ties", 0), ("Self",), ("all",), ("none",), ("set", 0), ("turn ", 0), ("other", 0, 1),
        )
        for why in whys:
            self.never_kept(net, (), 0, 0, why)
            self.never_kept(net, ahead, 0, 0, why)

    def test_a_tie_is_no_line_and_a_line_no_tie(self):
        net = (2, (((0, 1), 0),))
        self.never_kept(net, ((0, 1, 0, ("tie", 0)),) * 3, 0, 1, ("tie", 1))
        self.never_kept((2, (((0, 1), 0),) * 9), (), 0, 1, ("both", 0, 1))


class SeveralLines(Case):
    def test_the_first_of_several(self):
        net = free_net((UNLIKE, UNLIKE, UNLIKE))
        good = (0, 1, UNLIKE, ("tie", 0))
        bad = (0, 1, 0, ("tie", 0))
        for places in itertools.product((good, bad), repeat=4):
            due = places.index(bad) if bad in places else None
            self.fault(net, places, due)

    def test_what_hangs_on_a_line_at_fault(self):
        net = free_net((UNLIKE,))
        self.fault(net, ((0, 1, 0, ("tie", 0)), (0, 1, 0, ("both", 0, 0))), 0)

    def test_the_shut_triangle(self):
        net = free_net((UNLIKE, UNLIKE, UNLIKE))
        lines = (
            (0, 1, UNLIKE, ("tie", 0)),
            (1, 2, UNLIKE, ("tie", 1)),
            (0, 2, 0b1001, ("join", 0, 1)),
            (0, 2, UNLIKE, ("tie", 2)),
            (0, 2, 0, ("both", 2, 3)),
        )
        self.fault(net, lines, None)
        for place, line in enumerate(lines):
            for pair in range(4):
                if line[2] & (1 << pair):
                    narrower = line[:2] + (line[2] - (1 << pair), line[3])
                    self.fault(net, lines[:place] + (narrower,) + lines[place + 1:], place)
        self.assertEqual(meeting(net), [])

    def test_3000_lines(self):
        net = (2, (((0, 1), 0b1011),))
        lines = ((0, 1, 0b1011, ("tie", 0)), (1, 0, 0b1101, ("turn", 0)))
        lines += tuple((0, 1, 0b1011, ("both", k - 1, k - 1) if k % 2 else ("tie", 0)) for k in range(2, 3000))
        self.assertEqual(len(lines), 3000)
        self.fault(net, lines, None)
        self.fault(net, lines[:2999] + ((0, 1, 0b1010, ("both", 2998, 2997)),), 2999)
        self.fault(net, lines[:2999] + ((0, 1, 15, ("both", 2998, 2999)),), 2999)

    def test_lines_without_a_fault_hold(self):
        """Each setting that meets the net has, at each line's unknowns, one of its pairs."""
        chance = random.Random(22)
        shut = 0
        for net in some_nets(23, 150, 5, 5):
            lines = random_lines(chance, net, 30)
            self.fault(net, lines, None)
            settings = meeting(net)
            shut += settings == []
            for setting in settings:
                told = letters(net[0], setting)
                for x, y, pairs, why in lines:
                    self.assertIn((told[x], told[y]), pairs_of(pairs), (net, setting))
        self.assertGreater(shut, 20)

    def test_against_a_second_reading(self):
        chance = random.Random(24)
        faults = {}
        for net in some_nets(25, 150, 6, 8):
            lines = random_lines(chance, net, 25)
            for number in range(10):
                changed = list(lines)
                for one in range(chance.randint(1, 3)):
                    place = chance.randrange(len(lines))
                    changed[place] = changed_line(chance, net, changed[place])
                due = slow_line_fault(net, tuple(changed))
                self.fault(net, tuple(changed), due)
                faults[due] = True
        self.assertTrue(set(range(10)) | {None} <= set(faults))


def random_why(chance, net, place):
    """Some why; often one that can't be used."""
    if chance.randrange(8) == 0 or place == 0:
        return chance.choice((("self",), ("tie", chance.randint(0, len(net[1])))))
    word = chance.choice(("tie", "join", "both", "turn"))
    if word == "tie":
        return ("tie", chance.randint(0, len(net[1])))
    return (word,) + tuple(chance.randrange(place) for one in range(1 if word == "turn" else 2))


def random_lines(chance, net, many):
    """So many lines without a fault, most of them as narrow as they may be."""
    lines = []
    while len(lines) < many:
        x, y = chance.randrange(net[0]), chance.randrange(net[0])
        line = (x, y, 15, random_why(chance, net, len(lines)))
        needed = slowly_open(net, lines + [line], len(lines))
        if needed is not None:
            pairs = sum(1 << pair for pair in range(4) if pairs_of(1 << pair) <= needed or chance.randrange(12) == 0)
            lines.append((x, y, pairs, line[3]))
    return tuple(lines)


def changed_line(chance, net, line):
    x, y, pairs, why = line
    change = chance.randrange(5)
    if change == 0:
        return (chance.randrange(net[0]), y, pairs, why)
    if change == 1:
        return (x, chance.randrange(net[0]), pairs, why)
    if change == 2:
        return (x, y, chance.randrange(16), why)
    if change == 3:
        return (x, y, pairs, random_why(chance, net, 25))
    return (x, y, pairs, why[:-1] + (chance.choice(GREAT),))


class Paired(Case):
    def check_paired(self, net, settings=None):
        """Checks all that 17 says of what is told, with all settings where none are handed; gives it back."""
        told = paired(net)
        if told is None:
            self.assertFalse(kept_by_middle(net), net)
            return None
        self.assertIs(type(told), tuple)
        word, paper = told
        if word == "set":
            self.assertIs(type(paper), int)
            self.assertTrue(0 <= paper < 1 << net[0], (net, paper))
            self.assertTrue(all(slowly_met(net, paper)), (net, paper))
            return told
        self.assertEqual(word, "none", net)
        self.check_kinds(paper)
        self.assertLessEqual(len(paper), 3000)
        self.fault(net, paper, None)
        self.assertEqual(paper[-1][2], 0, net)
        self.assertEqual(meeting(net) if settings is None else settings, [], net)
        return told

    def check_kinds(self, paper):
        self.assertIs(type(paper), tuple)
        for line in paper:
            self.assertIs(type(line), tuple)
            self.assertEqual([type(part) for part in line], [int, int, int, tuple], line)
            self.assertEqual([type(part) for part in line[3]], [str] + [int] * (len(line[3]) - 1), line)

    def word(self, net):
        told = self.check_paired(net)
        return None if told is None else told[0]

    def test_no_ties(self):
        self.assertEqual(paired((0, ())), ("set", 0))
        for many in (1, 2, 12):
            self.assertEqual(self.word((many, ())), "set")

    def test_unknowns_in_no_tie(self):
        self.assertEqual(self.word((12, (((3, 7), UNLIKE), ((7,), 0b01)))), "set")
        self.assertEqual(self.word((12, (((3, 7), UNLIKE), ((7,), 0b01), ((3,), 0b01)))), "none")

    def test_an_empty_table(self):
        for net in ((1, (((0,), 0),)), (5, (((4, 1), UNLIKE), ((1, 3, 2, 0), 0))), (12, (((11,), 0),))):
            self.assertEqual(self.word(net), "none")

    def test_one_unknown(self):
        self.assertEqual(paired((1, (((0,), 0b01),))), ("set", 0))
        self.assertEqual(paired((1, (((0,), 0b10),))), ("set", 1))
        self.assertEqual(self.word((1, (((0,), 0b11),))), "set")
        self.assertEqual(self.word((1, (((0,), 0b10), ((0,), 0b01)))), "none")

    def test_rings_of_unlike_ones(self):
        for many in range(2, 13):
            ring = (many, tuple(((k, (k + 1) % many), UNLIKE) for k in range(many)))
            self.assertEqual(self.word(ring), "none" if many % 2 else "set", many)

    def test_a_ring_of_implied_ones_and_one_unlike(self):
        for many in range(2, 13):
            ring = (many, tuple(((k, (k + 1) % many), IMPLIED) for k in range(many)))
            self.assertEqual(self.word(ring), "set", many)
            self.assertEqual(self.word((many, ring[1] + (((0, many - 1), UNLIKE),))), "none", many)

    def test_two_unknowns(self):
        for first, second in itertools.product(range(16), repeat=2):
            net = (2, (((0, 1), first), ((1, 0), second)))
            self.assertEqual(self.word(net), "set" if meeting(net) else "none")

    def test_three_unknowns(self):
        for tables in itertools.product((0b0110, 0b1101, 0b1011, 0b0111, 0b1110, 0b1001, 0b0010), repeat=3):
            net = free_net(tables)
            self.assertEqual(self.word(net), "set" if meeting(net) else "none")

    def test_wide_ties_kept_by_middle(self):
        seen = {"set": 0, "none": 0}
        for seed, most_unknowns, most_ties in ((26, 4, 3), (27, 6, 6), (28, 7, 14), (29, 8, 24)):
            for net in some_nets(seed, 100, most_unknowns, most_ties, "middle"):
                word = self.word(net)
                self.assertEqual(word, "set" if meeting(net) else "none")
                seen[word] += 1
        self.assertGreater(seen["set"], 100)
        self.assertGreater(seen["none"], 100)

    def test_the_widest_nets(self):
        chance = random.Random(30)
        for ties in (8, 16, 24) * 15:
            setting = chance.randrange(1 << 12)
            net = planted_net(chance, 12, ties, "middle", setting)
            self.assertEqual(self.check_paired(net, [setting])[0], "set")
        for ties in (12, 18, 24):
            self.check_paired(some_net(chance, 12, ties, "middle"))

    def test_met_nets_made_shut(self):
        """Ties of two unknowns are put behind a net that was met, until no setting meets it."""
        chance = random.Random(31)
        shut = 0
        for number in range(60):
            net = planted_net(chance, 7, 10, "middle", chance.randrange(1 << 7))
            while meeting(net) and len(net[1]) < 24:
                scope = tuple(chance.sample(range(7), 2))
                net = (7, net[1] + ((scope, chance.choice((0b0110, 0b1001, 0b0111, 0b1110))),))
                self.check_paired(net)
            shut += not meeting(net)
        self.assertGreater(shut, 30)

    def test_other_nets(self):
        seen = {}
        for seed, most_unknowns, most_ties in ((32, 4, 4), (33, 6, 8), (34, 7, 14)):
            for net in some_nets(seed, 150, most_unknowns, most_ties):
                if not kept_by_middle(net):
                    seen[self.word(net)] = True
        self.assertEqual(len(seen), 3)

    def test_a_net_of_which_pairs_tell_nothing(self):
        net = (3, (((0, 1, 2), 0b10010110), ((0, 1, 2), 0b01101001)))
        self.assertEqual(meeting(net), [])
        self.assertIsNone(paired(net))

    def test_asked_again(self):
        nets = some_nets(35, 30, 8, 10, "middle")
        first = [paired(net) for net in nets]
        self.assertEqual([paired(net) for net in reversed(nets)], first[::-1])

    def test_hulls_in_the_nets_are_kept(self):
        """The nets above are kept by middle only if the second reading's hulls are."""
        for net in some_nets(36, 30, 8, 10, "middle"):
            for scope, table in net[1]:
                self.assertEqual(slowly_hulled("middle", len(scope), table), table)


if __name__ == "__main__":
    unittest.main()
