"""What settings meet, a net's keepers, and mixes of settings."""

import itertools
import random
import unittest

from mixkeep.mixes import mixed
from mixkeep.nets import keepers, row_at, unmet
from slowly import MANY, MIXES, meeting, slowly_kept, slowly_met, some_net, some_nets

ONE_OF_THREE = 0b00010110


class RowAt(unittest.TestCase):
    def test_one_by_one(self):
        self.assertEqual(row_at((0,), 0b1), 1)
        self.assertEqual(row_at((1,), 0b1), 0)
        self.assertEqual(row_at((0, 1), 0b10), 0b10)
        self.assertEqual(row_at((1, 0), 0b10), 0b01)
        self.assertEqual(row_at((2, 0, 3, 1), 0b0100), 0b0001)
        self.assertEqual(row_at((2, 0, 3, 1), 0b1001), 0b0110)
        self.assertEqual(row_at((11, 0, 7), 1 << 11), 0b001)
        self.assertEqual(row_at((0, 7, 11), 1 << 11), 0b100)
        self.assertEqual(row_at((11, 10, 9, 8), (1 << 12) - 1), 0b1111)

    def test_scopes_in_any_order(self):
        for width in range(1, 5):
            for scope in itertools.permutations(range(5), width):
                for setting in range(1 << 5):
                    told = row_at(scope, setting)
                    self.assertIs(type(told), int)
                    due = sum(1 << place for place in range(width) if setting & (1 << scope[place]))
                    self.assertEqual(told, due, (scope, setting))


class Unmet(unittest.TestCase):
    def told(self, net, setting, due):
        told = unmet(net, setting)
        self.assertIs(type(told), type(due), (net, setting))
        self.assertEqual(told, due, (net, setting))

    def test_no_ties(self):
        self.told((0, ()), 0, None)
        for setting in (0, 1, 2, 0b101, (1 << 12) - 1):
            self.told((12, ()), setting, None)

    def test_every_tie_unmet(self):
        self.told((2, (((0,), 0b10), ((1,), 0b10), ((0, 1), 0b1000))), 0, 0)
        self.told((1, (((0,), 0),)), 0, 0)
        self.told((1, (((0,), 0),)), 1, 0)

    def test_every_tie_met(self):
        self.told((2, (((0,), 0b10), ((1,), 0b01), ((1, 0), 0b0100))), 0b01, None)
        self.told((1, (((0,), 0b11),)), 0, None)
        self.told((1, (((0,), 0b11),)), 1, None)

    def test_the_first_of_several(self):
        net = (3, (((0, 1), 0b1111), ((2, 0), 0b0010), ((1,), 0b10), ((0,), 0)))
        self.told(net, 0b000, 1)
        self.told(net, 0b110, 3)
        self.told(net, 0b100, 2)

    def test_the_last_of_24(self):
        net = (12, tuple(((k % 12, (k + 1) % 12), 0b1111) for k in range(23)) + (((11,), 0b10),))
        self.told(net, 0, 23)
        self.told(net, 1 << 11, None)

    def test_against_a_second_reading(self):
        for net in some_nets(1, 120, 6, 24):
            for setting in range(1 << net[0]):
                met = slowly_met(net, setting)
                self.told(net, setting, met.index(False) if False in met else None)

    def test_against_a_second_reading_of_the_widest_nets(self):
        chance = random.Random(2)
        for number in range(20):
            net = some_net(chance, 12, 24)
            for setting in chance.sample(range(1 << 12), 60):
                met = slowly_met(net, setting)
                self.told(net, setting, met.index(False) if False in met else None)


class Keepers(unittest.TestCase):
    def told(self, net, due):
        told = keepers(net)
        self.assertIs(type(told), tuple)
        self.assertEqual(told, due, net)

    def test_all_mixes(self):
        self.told((0, ()), MIXES)
        self.told((12, ()), MIXES)
        self.told((1, (((0,), 0),)), MIXES)
        self.told((3, (((0,), 0b11), ((2, 0, 1), 0xFF))), MIXES)

    def test_no_mix(self):
        self.told((3, (((0, 1, 2), ONE_OF_THREE),)), ())
        self.told((3, (((1,), 0b11), ((0,), 0), ((2, 1, 0), ONE_OF_THREE))), ())

    def test_no_mix_keeps_all_ties(self):
        one_of_two = ((0, 1), 0b0110)
        implied = ((1, 2), 0b1101)
        one_of_three_or_all = ((0, 1, 2), 0b10010110)
        self.told((3, (one_of_two,)), ("middle", "odd"))
        self.told((3, (implied,)), ("no", "yes", "least", "most", "middle"))
        self.told((3, (one_of_two, implied)), ("middle",))
        self.told((3, (one_of_three_or_all,)), ("yes", "odd"))
        self.told((3, (one_of_two, one_of_three_or_all)), ("odd",))
        self.told((3, (one_of_two, implied, one_of_three_or_all)), ())

    def test_some_mixes(self):
        self.told((1, (((0,), 0b01),)), ("no", "least", "most", "middle", "odd"))
        self.told((1, (((0,), 0b10),)), ("yes", "least", "most", "middle", "odd"))
        self.told((1, (((0,), 0b01), ((0,), 0b10))), ("least", "most", "middle", "odd"))
        self.told((2, (((0, 1), 0b0111),)), ("no", "least", "middle"))
        self.told((2, (((0, 1), 0b1110),)), ("yes", "most", "middle"))
        self.told((4, (((0, 1, 2, 3), 0x7FFF),)), ("no", "least"))
        self.told((4, (((0, 1, 2, 3), 0xFFFE),)), ("yes", "most"))

    def test_every_tie_of_widths_1_to_3(self):
        seen = []
        for width in (1, 2, 3):
            for table in range(1 << (1 << width)):
                due = tuple(mix for mix in MIXES if slowly_kept(mix, width, table))
                self.told((width, ((tuple(range(width)), table),)), due)
                seen.append(due)
        self.assertGreater(len(set(seen)), 15)

    def test_ties_of_width_4(self):
        for table in range(3, 1 << 16, 97):
            due = tuple(mix for mix in MIXES if slowly_kept(mix, 4, table))
            self.told((4, (((2, 0, 3, 1), table),)), due)

    def test_nets_of_many_ties(self):
        for mix in MIXES:
            for net in some_nets(3, 30, 12, 24, mix):
                self.assertIn(mix, keepers(net))
        for mix in (None,) + MIXES:
            for net in some_nets(4, 30, 12, 5, mix):
                due = [one for one in MIXES if all(slowly_kept(one, len(tie[0]), tie[1]) for tie in net[1])]
                self.told(net, tuple(due))


class MixesOfSettings(unittest.TestCase):
    def test_they_meet_a_kept_net(self):
        for mix in MIXES:
            chance = random.Random(5)
            mixed_of_several = 0
            for net in some_nets(6, 60, 7, 6, mix):
                self.assertIn(mix, keepers(net))
                settings = meeting(net)
                for number in range(60 if settings else 0):
                    chosen = [chance.choice(settings) for one in range(MANY[mix])]
                    self.assertIsNone(unmet(net, mixed(mix, net[0], chosen)), (net, mix, chosen))
                    mixed_of_several += len(set(chosen)) == MANY[mix]
            self.assertGreater(mixed_of_several, 100)

    def test_they_may_not_meet_another_net(self):
        net = (3, (((0, 1, 2), ONE_OF_THREE),))
        for mix in MIXES:
            self.assertEqual(unmet(net, mixed(mix, 3, (1, 2, 4)[:MANY[mix]])), 0, mix)


if __name__ == "__main__":
    unittest.main()
