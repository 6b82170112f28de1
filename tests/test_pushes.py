"""Pushes up and down: their first fault, and what is told with a dead tie or with None."""

import itertools
import random
import unittest

from mixkeep.nets import unmet
from mixkeep.pushes import push_fault, pushed
from slowly import all_pushes, dead_ties, meeting, rows_of, slow_push_fault, some_net, some_nets

WAYS = ("up", "down")

# Each implies the next: a row is at fault that is yes ahead and no behind.
IMPLIED = 0b1101


def flipped(net):
    """The net with yes and no in each other's place."""
    ties = []
    for scope, table in net[1]:
        rows = rows_of(len(scope), table)
        ties.append((scope, sum(1 << ((1 << len(scope)) - 1 - row) for row in rows)))
    return (net[0], tuple(ties))


def chain(many):
    """The first is yes, and each implies the next."""
    return (many, (((0,), 0b10),) + tuple(((k, k + 1), IMPLIED) for k in range(many - 1)))


class Case(unittest.TestCase):
    def fault(self, net, pushes, due):
        """Checks the first fault, up in this net and down in the flipped one."""
        self.fault_by(net, "up", pushes, due)
        self.fault_by(flipped(net), "down", pushes, due)

    def fault_by(self, net, way, pushes, due):
        told = push_fault(net, way, pushes)
        self.assertIs(type(told), type(due), (net, way, pushes, told))
        self.assertEqual(told, due, (net, way, pushes))

    def check_pushed(self, net, way):
        """Checks all that 14 says of what is told; gives it back, with the known unknowns."""
        told = pushed(net, way)
        place = (net, way, told)
        self.assertIs(type(told), tuple)
        pushes, dead = told
        self.assertIs(type(pushes), tuple)
        for push in pushes:
            self.assertIs(type(push), tuple)
            self.assertEqual([type(number) for number in push], [int, int], place)
        self.fault_by(net, way, pushes, None)
        self.assertIsNone(slow_push_fault(net, way, pushes), place)
        known = [unknown for number, unknown in pushes]
        if dead is None:
            self.assertEqual(dead_ties(net, way, known), [], place)
            self.assertEqual(all_pushes(net, way, known), [], place)
        else:
            self.assertIs(type(dead), int, place)
            self.assertIn(dead, dead_ties(net, way, known), place)
        return pushes, dead, known


class PushFault(Case):
    def test_no_pushes(self):
        self.fault((0, ()), (), None)
        self.fault((12, ()), (), None)
        self.fault((1, (((0,), 0),)), (), None)

    def test_without_a_fault(self):
        self.fault((1, (((0,), 0b10),)), ((0, 0),), None)
        self.fault(chain(2), ((0, 0), (1, 1)), None)
        for many in range(1, 13):
            self.fault(chain(many), tuple((k, k) for k in range(many)), None)
        self.fault((2, (((1, 0), 0b1000),)), ((0, 0), (0, 1)), None)
        self.fault((2, (((1, 0), 0b1000),)), ((0, 1), (0, 0)), None)

    def test_no_ties_number(self):
        net = chain(3)
        for number in (-1, -2, -3, 3, 4, 24, 10 ** 59, -10 ** 59, 10 ** 60 - 1, -10 ** 60 + 1, 1 << 64, -(1 << 64)):
            self.fault(net, ((number, 0),), 0)
            self.fault(net, ((0, 0), (number, 1)), 1)
            self.fault(net, ((0, 0), (1, 1), (number, 2)), 2)
            self.fault(net, ((0, 0), (1, 1), (2, 2), (number, 0)), 3)
        self.fault((0, ()), ((0, 0),), 0)
        self.fault((3, ()), ((0, 0),), 0)

    def test_not_in_the_scope(self):
        net = (4, (((0,), 0b10), ((2, 0), 0b1000), ((1, 3), 0b1000)))
        for unknown in (1, 3, 4, 5, 12, -1, -2, -4, 10 ** 59, -10 ** 59, 10 ** 60 - 1, -10 ** 60 + 1, 1 << 64):
            self.fault(net, ((1, unknown),), 0)
            self.fault(net, ((0, 0), (1, unknown)), 1)
            self.fault(net, ((0, 0), (1, 2), (1, unknown)), 2)
        self.fault(net, ((0, 1),), 0)
        self.fault(net, ((2, 0),), 0)
        self.fault(net, ((0, 0), (1, 2), (2, 3), (2, 1)), None)

    def test_known_already(self):
        net = (2, (((0,), 0b10), ((0, 1), 0b1000), ((0,), 0b10)))
        self.fault(net, ((0, 0), (0, 0)), 1)
        self.fault(net, ((0, 0), (2, 0)), 1)
        self.fault(net, ((2, 0), (1, 1), (1, 0)), 2)
        self.fault(net, ((1, 0), (1, 1), (0, 0)), 2)
        self.fault(net, ((1, 1), (1, 0)), None)

    def test_not_pushed_by_then(self):
        net = chain(3)
        self.fault(net, ((1, 1),), 0)
        self.fault(net, ((1, 0),), 0)
        self.fault(net, ((0, 0), (2, 2)), 1)
        self.fault(net, ((0, 0), (2, 1), (1, 1)), 1)
        self.fault(net, ((0, 0), (1, 1), (2, 2)), None)
        self.fault((1, (((0,), 0b11),)), ((0, 0),), 0)
        self.fault((1, (((0,), 0b01),)), ((0, 0),), 0)

    def test_one_of_the_live_rows_is_enough_against_a_push(self):
        net = (3, (((0,), 0b10), ((0, 1, 2), 0b10100101)))
        self.fault(net, ((0, 0), (1, 1)), 1)
        self.fault(net, ((0, 0), (1, 2)), None)
        self.fault(net, ((1, 2),), 0)

    def test_a_dead_tie_pushes_nothing(self):
        self.fault((1, (((0,), 0),)), ((0, 0),), 0)
        self.fault((2, (((0, 1), 0),)), ((0, 1),), 0)
        net = (3, (((0,), 0b10), ((0, 1, 2), 0b01010101), ((1,), 0b10)))
        self.fault(net, ((0, 0), (1, 1)), 1)
        self.fault(net, ((0, 0), (1, 2)), 1)

    def test_other_ties_push_on_behind_a_dead_one(self):
        net = (3, (((0,), 0b10), ((0, 1), 0b0101), ((1,), 0b10), ((1, 2), IMPLIED)))
        self.fault(net, ((0, 0), (2, 1), (3, 2)), None)
        self.fault(net, ((0, 0), (2, 1), (3, 2), (1, 1)), 3)

    def test_the_first_of_several(self):
        net = chain(3)
        self.fault(net, ((9, 9), (1, 1), (-1, 0)), 0)
        self.fault(net, ((0, 0), (1, 2), (0, 0), (7, 7)), 1)
        self.fault(net, ((0, 0), (1, 1), (2, 2), (2, 2), (5, 5)), 3)

    def test_the_way_counts(self):
        up = (1, (((0,), 0b10),))
        down = (1, (((0,), 0b01),))
        self.assertIsNone(push_fault(up, "up", ((0, 0),)))
        self.assertIsNone(push_fault(down, "down", ((0, 0),)))
        self.assertEqual(push_fault(up, "down", ((0, 0),)), 0)
        self.assertEqual(push_fault(down, "up", ((0, 0),)), 0)

    def test_300_pairs(self):
        self.fault(chain(12), ((0, 0),) * 300, 1)
        good = tuple((k, k) for k in range(12))
        self.fault(chain(12), good + ((10 ** 60 - 1, 10 ** 60 - 1),) * 288, 12)

    def test_every_short_row_of_pushes(self):
        pairs = tuple(itertools.product((-1, 0, 1, 2), (-1, 0, 1, 2)))
        for net in (chain(2), (2, (((0, 1), 0b1000), ((1,), 0))), (2, (((1, 0), 0b1010), ((1, 0), IMPLIED)))):
            for many in range(4):
                for pushes in itertools.product(pairs, repeat=many):
                    self.fault(net, pushes, slow_push_fault(net, "up", pushes))

    def test_against_a_second_reading(self):
        chance = random.Random(11)
        faults = {}
        for net in some_nets(12, 300, 12, 24):
            for way in WAYS:
                for pushes in rows_of_pushes(chance, net, way):
                    due = slow_push_fault(net, way, pushes)
                    self.fault_by(net, way, pushes, due)
                    faults[due] = True
        self.assertTrue({None, 0, 1, 2, 3} <= set(faults))


def rows_of_pushes(chance, net, way):
    """Some rows of pushes: good ones, and such with one pair put in."""
    for number in range(4):
        good = []
        while all_pushes(net, way, [push[1] for push in good]):
            good.append(chance.choice(all_pushes(net, way, [push[1] for push in good])))
        yield tuple(good)
        for other in range(3):
            place = chance.randint(0, len(good))
            pair = (chance.randint(-1, len(net[1])), chance.randint(-1, net[0]))
            yield tuple(good[:place]) + (pair,) + tuple(good[place:])


class Pushed(Case):
    def test_no_ties(self):
        for way in WAYS:
            for many in (0, 1, 12):
                self.assertEqual(pushed((many, ()), way), ((), None))

    def test_one_tie(self):
        self.assertEqual(pushed((1, (((0,), 0b10),)), "up"), (((0, 0),), None))
        self.assertEqual(pushed((1, (((0,), 0b10),)), "down"), ((), None))
        self.assertEqual(pushed((1, (((0,), 0b01),)), "up"), ((), None))
        self.assertEqual(pushed((1, (((0,), 0b01),)), "down"), (((0, 0),), None))
        for way in WAYS:
            self.assertEqual(pushed((1, (((0,), 0b11),)), way), ((), None))
            self.assertEqual(pushed((4, (((3, 1),  0b1111),)), way), ((), None))

    def test_empty_table(self):
        for way in WAYS:
            for net in ((1, (((0,), 0),)), (3, (((0,), 0b10), ((1, 2), 0))), (3, (((1, 2), 0), ((0,), 0b01)))):
                pushes, dead, known = self.check_pushed(net, way)
                self.assertEqual(net[1][dead][1], 0)

    def test_chains(self):
        for many in range(1, 13):
            for net, way in ((chain(many), "up"), (flipped(chain(many)), "down")):
                pushes, dead, known = self.check_pushed(net, way)
                self.assertEqual(pushes, tuple((k, k) for k in range(many)))
                self.assertIsNone(dead)
            backward = (many, tuple(reversed(chain(many)[1])))
            for net, way in ((backward, "up"), (flipped(backward), "down")):
                pushes, dead, known = self.check_pushed(net, way)
                self.assertEqual((known, dead), (list(range(many)), None))

    def test_a_tie_that_dies_last(self):
        for many in range(2, 13):
            net = (many, chain(many)[1] + (((many - 1, 0), 0b0111),))
            for one, way in ((net, "up"), (flipped(net), "down")):
                self.assertIsNotNone(self.check_pushed(one, way)[1])
                self.assertEqual(meeting(one), [])

    def test_nothing_pushed_and_yet_not_met(self):
        net = (3, (((0, 1), 0b0110), ((1, 2), 0b0110), ((0, 2), 0b0110)))
        for way in WAYS:
            self.assertEqual(pushed(net, way), ((), None))
        self.assertEqual(meeting(net), [])

    def test_asked_again(self):
        for way in WAYS:
            first = pushed(chain(4), way)
            pushed(flipped(chain(5)), way)
            self.assertEqual(pushed(chain(4), way), first)

    def test_many_nets(self):
        seen = {}
        for most_ties in (3, 8, 24):
            for net in some_nets(13, 250, 12, most_ties):
                for way in WAYS:
                    pushes, dead, known = self.check_pushed(net, way)
                    seen[(way, dead is None, len(pushes) > 2)] = True
        self.assertEqual(len(seen), 8)

    def test_whatever_is_pushed_the_same_is_told(self):
        chance = random.Random(14)
        for net in some_nets(15, 250, 8, 12):
            for way in WAYS:
                due_known, due_dead = self.check_pushed(net, way)[2], pushed(net, way)[1]
                for number in range(3):
                    known = []
                    while not dead_ties(net, way, known) and all_pushes(net, way, known):
                        known.append(chance.choice(all_pushes(net, way, known))[1])
                    self.assertEqual(dead_ties(net, way, known) == [], due_dead is None, (net, way))
                    if due_dead is None:
                        self.assertEqual(sorted(known), sorted(due_known), (net, way))

    def test_a_dead_tie_means_that_none_meets(self):
        for net in some_nets(16, 200, 7, 10):
            for way in WAYS:
                if pushed(net, way)[1] is not None:
                    self.assertEqual(meeting(net), [], (net, way))


class KeptNets(Case):
    def check_kept(self, net, way):
        """Checks 15 against all settings; tells whether a tie was dead."""
        pushes, dead, known = self.check_pushed(net, way)
        settings = meeting(net)
        if dead is not None:
            self.assertEqual(settings, [], (net, way))
            return True
        mask = sum(1 << unknown for unknown in known)
        told = mask if way == "up" else (1 << net[0]) - 1 - mask
        self.assertIsNone(unmet(net, told), (net, way))
        self.assertIn(told, settings)
        for setting in settings:
            self.assertEqual((setting if way == "up" else ~setting) & mask, mask, (net, way))
        return False

    def test_by_hand(self):
        implies = (3, (((0, 1), IMPLIED), ((1, 2), IMPLIED), ((1,), 0b10)))
        self.assertFalse(self.check_kept(implies, "up"))
        self.assertFalse(self.check_kept(implies, "down"))
        self.assertEqual(pushed(implies, "up"), (((2, 1), (1, 2)), None))
        self.assertEqual(pushed(implies, "down"), ((), None))

    def test_no_ties(self):
        for way in WAYS:
            for many in (0, 1, 5):
                self.assertFalse(self.check_kept((many, ()), way))

    def test_small_nets(self):
        for way, mix in (("up", "least"), ("down", "most")):
            for most_ties in (4, 12):
                seen = [self.check_kept(net, way) for net in some_nets(17, 200, 6, most_ties, mix)]
                self.assertGreater(seen.count(True), 10)
                self.assertGreater(seen.count(False), 10)

    def test_the_widest_nets(self):
        chance = random.Random(18)
        for way, mix in (("up", "least"), ("down", "most")):
            for ties in (6, 14, 24):
                self.check_kept(some_net(chance, 12, ties, mix), way)
        self.assertFalse(self.check_kept(chain(12), "up"))
        self.assertFalse(self.check_kept(flipped(chain(12)), "down"))
        self.assertFalse(self.check_kept(chain(12), "down"))

    def test_every_two_ties_of_two_unknowns(self):
        for way, mix_tables in (("up", kept_tables("least")), ("down", kept_tables("most"))):
            for first, second in itertools.product(mix_tables, repeat=2):
                self.check_kept((2, (((0, 1), first), ((1, 0), second))), way)


def kept_tables(mix):
    """The tables of width 2 that least or most keeps: all but those with both unlike rows and not their mix."""
    needed = {"least": 0b0001, "most": 0b1000}[mix]
    return [table for table in range(16) if table & 0b0110 != 0b0110 or table & needed]


if __name__ == "__main__":
    unittest.main()
