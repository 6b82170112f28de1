"""Terms: their first fault, and what is told of a net by them."""

import itertools
import random
import unittest

from mixkeep.terms import summed, term_fault
from slowly import (
    letters, meeting, planted_net, slow_term_fault, slowly_a_term, slowly_kept, slowly_met, some_net, some_nets,
)

GREAT = (24, 25, 300, 1 << 31, 1 << 63, 1 << 64, 10 ** 19, 10 ** 59, 10 ** 60 - 1)
UNLIKE = 0b0110
ALIKE = 0b1001
ODD_OF_THREE = 0b10010110
EVEN_OF_THREE = 0b01101001


def kept_by_odd(net):
    return all(slowly_kept("odd", len(scope), table) for scope, table in net[1])


class Case(unittest.TestCase):
    def fault(self, net, terms, due):
        told = term_fault(net, terms)
        self.assertIs(type(told), type(due), (net, terms, told))
        self.assertEqual(told, due, (net, terms))
        self.assertEqual(slow_term_fault(net, terms), due, (net, terms))

    def no_term(self, net, ahead, term):
        """Checks that a tuple is at fault in its place, alone and behind and ahead of terms."""
        self.fault(net, (term,), 0)
        self.fault(net, ahead + (term,), len(ahead))
        self.fault(net, (term,) + ahead, 0)
        self.fault(net, ahead + (term, term) + ahead, len(ahead))

    def some_term(self, net, term):
        """Checks that a tuple is a term: alone it is at fault for the sum at most."""
        self.fault(net, (term,), None if term[1:] == (0, 1) else 1)


class TermFault(Case):
    def test_no_terms(self):
        for net in ((0, ()), (12, ()), (1, (((0,), 0),)), (1, (((0,), 0b10), ((0,), 0b01)))):
            self.fault(net, (), 0)

    def test_no_fault(self):
        self.fault((1, (((0,), 0b10), ((0,), 0b01))), ((0, 1, 1), (1, 1, 0)), None)
        self.fault((1, (((0,), 0b10), ((0,), 0b01))), ((1, 1, 0), (0, 1, 1)), None)
        self.fault((2, (((0, 1), UNLIKE), ((1, 0), ALIKE))), ((0, 3, 1), (1, 3, 0)), None)
        net = (3, (((0, 1), UNLIKE), ((1, 2), UNLIKE), ((2, 0), UNLIKE)))
        for order in itertools.permutations(((0, 3, 1), (1, 6, 1), (2, 5, 1))):
            self.fault(net, order, None)
        self.fault((3, (((2, 0, 1), ODD_OF_THREE), ((0, 1, 2), EVEN_OF_THREE))), ((0, 7, 1), (1, 7, 0)), None)

    def test_no_ties_number(self):
        net = (2, (((0, 1), UNLIKE), ((0,), 0b10)))
        for number in (2, 3) + GREAT:
            for some in (0, 1, 2, 3):
                for parity in (0, 1):
                    self.no_term(net, ((0, 3, 1), (1, 1, 1)), (number, some, parity))
        self.no_term((1, ()), (), (0, 0, 0))
        self.no_term((0, ()), (), (0, 0, 0))
        self.no_term((0, ()), (), (0, 0, 1))

    def test_not_in_the_scope(self):
        net = (5, (((3, 1), 0), ((4,), 0), ((2, 0, 4), 0)))
        for number, inside in ((0, 0b01010), (1, 0b10000), (2, 0b10101)):
            for some in range(1 << 7):
                for parity in (0, 1):
                    if some & inside == some:
                        self.some_term(net, (number, some, parity))
                    else:
                        self.no_term(net, ((1, 16, 1),), (number, some, parity))

    def test_masks_of_many_figures(self):
        net = (12, (((0, 11), 0), ((0, 11), UNLIKE)))
        for some in GREAT:
            for parity in (0, 1):
                self.no_term(net, ((1, 1 | 1 << 11, 1),), (0, some, parity))
                self.no_term(net, ((1, 1 | 1 << 11, 1),), (1, some, parity))
        for some in (1 << 12, 1 << 64, (1 << 64) + 1, (1 << 199) + 1 + (1 << 11)):
            self.no_term(net, (), (0, some, 0))
        self.no_term(net, (), (1, (1 << 190) + 1 + (1 << 11), 1))

    def test_neither_0_nor_1(self):
        net = (2, (((0,), 0), ((0, 1), UNLIKE)))
        for parity in (2, 3) + GREAT:
            for some in (0, 1):
                self.no_term(net, ((1, 3, 1),), (0, some, parity))
            self.no_term(net, ((1, 3, 1),), (1, 3, parity))

    def test_an_empty_table(self):
        net = (3, (((0, 2), 0),))
        for some in (0, 1, 4, 5):
            self.some_term(net, (0, some, 0))
            self.some_term(net, (0, some, 1))
        self.fault(net, ((0, 0, 1),), None)
        self.fault(net, ((0, 0, 0),), 1)
        self.fault(net, ((0, 5, 1), (0, 5, 0)), None)

    def test_no_unknowns(self):
        net = (1, (((0,), 0b01), ((0,), 0b10), ((0,), 0b11)))
        for number in range(3):
            self.some_term(net, (number, 0, 0))
            self.no_term(net, (), (number, 0, 1))

    def test_a_row_against_it(self):
        net = (3, (((0, 1, 2), ODD_OF_THREE | 1), ((0, 1, 2), ODD_OF_THREE), ((0, 1, 2), 0b00000110)))
        self.no_term(net, ((1, 7, 1),), (0, 7, 1))
        self.no_term(net, ((1, 7, 1),), (0, 7, 0))
        self.no_term(net, ((1, 7, 1),), (1, 7, 0))
        self.no_term(net, ((1, 7, 1),), (1, 3, 0))
        self.some_term(net, (1, 7, 1))
        self.some_term(net, (2, 3, 1))
        self.some_term(net, (2, 4, 0))
        self.some_term(net, (2, 7, 1))
        self.no_term(net, (), (2, 1, 0))
        self.no_term(net, (), (2, 6, 1))

    def test_the_scopes_order(self):
        net = (3, (((2, 0), 0b0010),))
        self.some_term(net, (0, 4, 1))
        self.some_term(net, (0, 1, 0))
        self.some_term(net, (0, 5, 1))
        self.no_term(net, (), (0, 1, 1))
        self.no_term(net, (), (0, 4, 0))
        self.no_term(net, (), (0, 2, 0))

    def test_an_unknown_left_over(self):
        net = (2, (((0, 1), 0b1000), ((0,), 0b10)))
        self.fault(net, ((0, 3, 0), (1, 1, 1)), 2)
        self.fault(net, ((0, 2, 1),), 1)
        self.fault(net, ((0, 2, 1), (0, 2, 1), (1, 1, 1)), 3)
        net = (12, (((11,), 0),))
        self.fault(net, ((0, 1 << 11, 1), (0, 1 << 11, 1), (0, 1 << 11, 1)), 3)

    def test_an_even_sum(self):
        net = (2, (((0, 1), UNLIKE), ((0, 1), UNLIKE)))
        self.fault(net, ((0, 3, 1), (1, 3, 1)), 2)
        self.fault(net, ((0, 0, 0),), 1)
        self.fault(net, ((0, 3, 1), (0, 3, 1), (1, 0, 0)), 3)
        self.fault((1, (((0,), 0),)), ((0, 0, 1), (0, 0, 1)), 2)
        self.fault((1, (((0,), 0),)), ((0, 0, 1),) * 3, None)

    def test_both(self):
        net = (2, (((0, 1), 0b1000), ((0,), 0b10)))
        self.fault(net, ((0, 3, 0),), 1)
        self.fault(net, ((0, 1, 1), (1, 1, 1), (0, 3, 0)), 3)

    def test_the_place_goes_ahead_of_the_length(self):
        net = (1, (((0,), 0b10), ((0,), 0b01)))
        self.fault(net, ((0, 1, 1), (1, 1, 1)), 1)
        self.fault(net, ((0, 1, 1), (1, 1, 0), (1, 0, 1)), 2)
        self.fault(net, ((0, 1, 1), (2, 1, 0), (9, 9, 9)), 1)

    def test_300_terms(self):
        net = (1, (((0,), 0b10), ((0,), 0b01)))
        self.fault(net, ((0, 1, 1), (1, 1, 0)) * 150, 300)
        self.fault(net, ((0, 1, 1), (1, 1, 0)) * 149, None)
        self.fault(net, ((0, 1, 1), (1, 1, 0)) * 149 + ((0, 0, 0), (0, 1, 0)), 299)
        self.fault(net, ((1, 1, 0),) * 297 + ((0, 1, 1), (0, 0, 0), (1, 0, 0)), None)

    def test_every_table_of_widths_1_to_3(self):
        for scope in ((0,), (1,), (0, 1), (2, 0), (0, 1, 2), (2, 0, 1)):
            for table in range(1 << (1 << len(scope))):
                net = (3, ((scope, table),))
                for some, parity in itertools.product(range(9), range(3)):
                    term = (0, some, parity)
                    found = slowly_a_term(net, *term)
                    self.assertEqual(term_fault(net, (term,)) != 0, found, (net, term))

    def test_tables_of_width_4(self):
        chance = random.Random(41)
        found = 0
        for number in range(150):
            net = some_net(chance, 6, 1, chance.choice((None, "odd")))
            for some, parity in itertools.product(range(64), range(2)):
                term = (0, some, parity)
                found += slowly_a_term(net, *term)
                self.fault(net, (term,), slow_term_fault(net, (term,)))
        self.assertGreater(found, 300)

    def test_terms_without_a_fault_hold(self):
        """Each setting that meets a net makes each sum come out."""
        for net in some_nets(42, 80, 6, 4, "odd"):
            settings = meeting(net)
            for term in terms_of(net):
                self.assertNotEqual(term_fault(net, (term,)), 0)
                for setting in settings:
                    told = letters(net[0], setting & term[1])
                    self.assertEqual(told.count("y") % 2, term[2], (net, term, setting))

    def test_against_a_second_reading(self):
        chance = random.Random(43)
        faults = {"none": 0, "place": 0, "length": 0}
        for net in some_nets(44, 300, 7, 9, "odd"):
            known = terms_of(net)
            for number in range(12 if known else 0):
                terms = chance.sample(known, min(len(known), chance.randint(1, 7)))
                if chance.randrange(3) == 0:
                    place = chance.randrange(len(terms))
                    terms[place] = changed_term(chance, terms[place])
                due = slow_term_fault(net, tuple(terms))
                self.fault(net, tuple(terms), due)
                faults["none" if due is None else "length" if due == len(terms) else "place"] += 1
        self.assertGreater(min(faults.values()), 20, faults)


def terms_of(net):
    """All terms of a net."""
    found = []
    for number in range(len(net[1])):
        for some, parity in itertools.product(range(1 << net[0]), range(2)):
            if slowly_a_term(net, number, some, parity):
                found.append((number, some, parity))
    return found


def changed_term(chance, term):
    number, some, parity = term
    change = chance.randrange(3)
    if change == 0:
        return (chance.choice((number + 1, number + 9) + GREAT), some, parity)
    if change == 1:
        return (number, chance.choice((some ^ 1, some ^ 4, some + (1 << 9)) + GREAT), parity)
    return (number, some, chance.choice((1 - parity, 2, 3) + GREAT))


class Summed(Case):
    def check_summed(self, net, settings=None):
        """Checks all that 19 says of what is told, with all settings where none are handed; gives it back."""
        told = summed(net)
        if told is None:
            self.assertFalse(kept_by_odd(net), net)
            return None
        self.assertIs(type(told), tuple)
        word, paper = told
        if word == "set":
            self.assertIs(type(paper), int)
            self.assertTrue(0 <= paper < 1 << net[0], (net, paper))
            self.assertTrue(all(slowly_met(net, paper)), (net, paper))
            return told
        self.assertEqual(word, "none", net)
        self.assertIs(type(paper), tuple)
        self.assertLessEqual(len(paper), 300)
        for term in paper:
            self.assertIs(type(term), tuple)
            self.assertEqual([type(part) for part in term], [int, int, int], term)
        self.fault(net, paper, None)
        self.assertEqual(meeting(net) if settings is None else settings, [], net)
        return told

    def word(self, net):
        told = self.check_summed(net)
        return None if told is None else told[0]

    def test_no_ties(self):
        self.assertEqual(summed((0, ())), ("set", 0))
        for many in (1, 2, 12):
            self.assertEqual(self.word((many, ())), "set")

    def test_unknowns_in_no_tie(self):
        self.assertEqual(self.word((12, (((3, 7), UNLIKE), ((7,), 0b01)))), "set")
        self.assertEqual(self.word((12, (((3, 7), UNLIKE), ((7,), 0b01), ((3,), 0b01)))), "none")

    def test_an_empty_table(self):
        for net in ((1, (((0,), 0),)), (5, (((4, 1), UNLIKE), ((1, 3, 2, 0), 0))), (12, (((11,), 0),))):
            self.assertEqual(self.word(net), "none")

    def test_one_unknown(self):
        self.assertEqual(summed((1, (((0,), 0b01),))), ("set", 0))
        self.assertEqual(summed((1, (((0,), 0b10),))), ("set", 1))
        self.assertEqual(self.word((1, (((0,), 0b11),))), "set")
        self.assertEqual(self.word((1, (((0,), 0b10), ((0,), 0b01)))), "none")

    def test_rings_of_unlike_ones(self):
        for many in range(2, 13):
            ring = (many, tuple(((k, (k + 1) % many), UNLIKE) for k in range(many)))
            self.assertEqual(self.word(ring), "none" if many % 2 else "set", many)

    def test_threes(self):
        threes = tuple(((k, k + 1, k + 2), ODD_OF_THREE) for k in range(10))
        self.assertEqual(self.word((12, threes)), "set")
        self.assertEqual(self.word((12, threes + (((0, 11), UNLIKE), ((0, 1), ALIKE)))), "set")
        for last in (((0, 3), UNLIKE), ((11, 2), UNLIKE)):
            self.assertEqual(self.word((12, threes + (last,))), "none")

    def test_small_nets_kept_by_odd(self):
        seen = {"set": 0, "none": 0}
        for seed, most_unknowns, most_ties in ((45, 3, 4), (46, 6, 6), (47, 7, 12), (48, 8, 24)):
            for net in some_nets(seed, 120, most_unknowns, most_ties, "odd"):
                word = self.word(net)
                self.assertEqual(word, "set" if meeting(net) else "none")
                seen[word] += 1
        self.assertGreater(seen["set"], 100)
        self.assertGreater(seen["none"], 100)

    def test_the_widest_nets(self):
        chance = random.Random(49)
        shut = 0
        for ties in (8, 16, 24) * 15:
            setting = chance.randrange(1 << 12)
            net = planted_net(chance, 12, ties, "odd", setting)
            self.assertEqual(self.check_summed(net, [setting])[0], "set")
        for ties in (4, 12, 24) * 2:
            shut += self.check_summed(some_net(chance, 12, ties, "odd"))[0] == "none"
        self.assertGreater(shut, 0)

    def test_met_nets_made_shut(self):
        """Sums of three are put behind a net that was met, until no setting meets it."""
        chance = random.Random(50)
        shut = 0
        for number in range(60):
            net = planted_net(chance, 8, 5, "odd", chance.randrange(1 << 8))
            while meeting(net) and len(net[1]) < 24:
                scope = tuple(chance.sample(range(8), 3))
                net = (8, net[1] + ((scope, chance.choice((ODD_OF_THREE, EVEN_OF_THREE))),))
                self.check_summed(net)
            shut += not meeting(net)
        self.assertGreater(shut, 30)

    def test_other_nets(self):
        seen = {}
        for seed, most_unknowns, most_ties in ((51, 4, 4), (52, 6, 8), (53, 7, 14)):
            for net in some_nets(seed, 150, most_unknowns, most_ties):
                if not kept_by_odd(net):
                    seen[self.word(net)] = True
        self.assertEqual(len(seen), 3)

    def test_a_net_of_which_terms_tell_nothing(self):
        net = (2, (((0, 1), 0b0111), ((0, 1), 0b1110), ((0, 1), 0b1101), ((0, 1), 0b1011)))
        self.assertEqual(meeting(net), [])
        self.assertIsNone(summed(net))

    def test_asked_again(self):
        nets = some_nets(54, 30, 8, 10, "odd")
        first = [summed(net) for net in nets]
        self.assertEqual([summed(net) for net in reversed(nets)], first[::-1])


if __name__ == "__main__":
    unittest.main()
