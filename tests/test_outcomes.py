"""Settled nets: met, shut and loose, and how an outcome is shown."""

import itertools
import random
import unittest

from mixkeep.lines import read_net
from mixkeep.nets import keepers
from mixkeep.outcomes import Loose, Met, Outcome, Shut, settled
from mixkeep.pairs import line_fault
from mixkeep.pushes import push_fault
from mixkeep.terms import term_fault
from slowly import (
    MANY, MIXES, dead_ties, first_kept_net, letters, meeting, rows_of, slow_line_fault, slow_push_fault,
    slow_term_fault, slowly_kept, slowly_met, slowly_mixed, some_net, some_nets,
)

TWELVE = tuple("abcdefghijkl")


class OutcomeCase(unittest.TestCase):
    """Checks all that the document says of an outcome, by the second reading."""

    def check_settled(self, net, settings=None):
        """Checks what is told of a net, with all settings that meet it where none are handed; gives it back."""
        told = settled(net)
        self.check_outcome(net, told, meeting(net) if settings is None else settings)
        return told

    def check_outcome(self, net, told, settings):
        self.assertIsInstance(told, Outcome)
        kept = [mix for mix in MIXES if all(slowly_kept(mix, len(scope), table) for scope, table in net[1])]
        if not kept:
            self.assertIs(type(told), Loose, net)
            self.assertEqual(told.called(), "loose")
            self.check_breaches(net, told.breaches)
            return
        self.assertIs(type(told), Met if settings else Shut, net)
        self.assertEqual(told.called(), "met" if settings else "shut")
        self.assertIs(type(told.keeper), str)
        self.assertEqual(told.keeper, kept[0], net)
        if settings:
            self.check_setting(net, told, settings)
        else:
            self.check_paper(net, told)

    def check_setting(self, net, told, settings):
        everything = (1 << net[0]) - 1
        self.assertIs(type(told.setting), int)
        self.assertTrue(0 <= told.setting <= everything, net)
        self.assertTrue(all(slowly_met(net, told.setting)), net)
        if told.keeper == "no":
            self.assertEqual(told.setting, 0, net)
        if told.keeper == "yes":
            self.assertEqual(told.setting, everything, net)
        for setting in settings:
            if told.keeper == "least":
                self.assertEqual(setting & told.setting, told.setting, net)
            if told.keeper == "most":
                self.assertEqual(setting | told.setting, told.setting, net)

    def check_paper(self, net, told):
        self.assertIs(type(told.paper), tuple)
        if told.keeper == "middle":
            self.assertIsNone(slow_line_fault(net, told.paper), net)
            self.assertEqual(told.paper[-1][2], 0, net)
        elif told.keeper == "odd":
            self.assertIsNone(slow_term_fault(net, told.paper), net)
        else:
            self.check_pushes(net, told)

    def check_pushes(self, net, told):
        way = "down" if told.keeper == "most" else "up"
        pushes, dead = told.paper
        self.assertIs(type(pushes), tuple)
        self.assertIs(type(dead), int)
        self.assertIsNone(slow_push_fault(net, way, pushes), net)
        self.assertIn(dead, dead_ties(net, way, [unknown for number, unknown in pushes]), net)
        if told.keeper in ("no", "yes"):
            self.assertEqual(net[1][dead][1], 0, net)

    def check_breaches(self, net, breaches):
        self.assertIs(type(breaches), tuple)
        self.assertEqual(len(breaches), 6)
        for mix, pair in zip(MIXES, breaches):
            self.assertIs(type(pair), tuple)
            number, rows = pair
            self.assertIs(type(number), int)
            self.assertIs(type(rows), tuple)
            self.assertEqual([type(row) for row in rows], [int] * MANY[mix])
            self.assertIn(number, range(len(net[1])))
            scope, table = net[1][number]
            self.assertTrue(set(rows) <= set(rows_of(len(scope), table)), (net, mix, rows))
            self.assertNotIn(slowly_mixed(mix, len(scope), rows), rows_of(len(scope), table), (net, mix, rows))

    def check_shown(self, net, names, told):
        """Checks the rows that an outcome is shown as, by what its fields are; gives them back."""
        shown = told.shown(names)
        self.assertIs(type(shown), list)
        self.assertEqual([type(row) for row in shown], [str] * len(shown))
        self.assertEqual(shown, due_rows(net, names, told), net)
        return shown


def due_rows(net, names, told):
    if isinstance(told, Met):
        marked = zip(letters(net[0], told.setting), names)
        return ["met " + told.keeper + " {" + " ".join(name for letter, name in marked if letter == "y") + "}"]
    if isinstance(told, Shut):
        steps = told.paper if told.keeper in ("middle", "odd") else told.paper[0]
        return ["shut " + told.keeper + " " + str(len(steps))]
    rows = ["loose"]
    for mix, (number, parts) in zip(MIXES, told.breaches):
        width = len(net[1][number][0])
        rows.append(" ".join([mix, str(number)] + ["".join(letters(width, part)) for part in parts]))
    return rows


class Case(OutcomeCase):
    def settle(self, text):
        """Settles a text's net, checks what is told, and gives it back with the rows shown."""
        names, net = read_net(text)
        told = self.check_settled(net)
        shown = self.check_shown(net, names, told)
        self.assertEqual(self.check_shown(net, list(names), told), shown)
        return told, shown

    def met(self, text, keeper, due):
        """Checks that a text's net is told as met, and which names are yes."""
        told, shown = self.settle(text)
        self.assertIs(type(told), Met)
        self.assertEqual(shown, ["met " + keeper + " {" + due + "}"])
        return told

    def shut(self, text, keeper):
        told, shown = self.settle(text)
        self.assertIs(type(told), Shut)
        self.assertEqual(told.keeper, keeper)
        return told

    def loose(self, text):
        told, shown = self.settle(text)
        self.assertIs(type(told), Loose)
        self.assertEqual(len(shown), 7)
        return told, shown


class Classes(Case):
    def test_bases(self):
        for kind in (Met, Shut, Loose):
            self.assertEqual(kind.__bases__, (Outcome,))
        self.assertEqual(Outcome.__bases__, (object,))

    def test_called(self):
        self.assertEqual(settled((0, ())).called(), "met")
        self.assertEqual(settled((1, (((0,), 0),))).called(), "shut")
        self.assertEqual(settled((3, (((0, 1, 2), 0b00010110),))).called(), "loose")


class ByNo(Case):
    def test_met(self):
        self.met("", "no", "")
        self.met("a : n", "no", "")
        self.met("a : n y", "no", "")
        self.met("a b : nn yn ny\nc b a : nnn yyy", "no", "")

    def test_met_without_ties(self):
        for many in range(13):
            told = self.check_settled((many, ()))
            self.assertEqual((told.keeper, told.setting), ("no", 0))
            self.assertEqual(told.shown(TWELVE[:many]), ["met no {}"])

    def test_shut(self):
        self.assertEqual(self.shut("a :", "no").paper[1], 0)
        self.assertEqual(self.shut("a b : nn yn\nb c d :\na : n", "no").paper[1], 1)
        self.shut("a :\nb :\nc d :", "no")
        self.shut("a b : nn yy\na : n\nb :", "no")

    def test_the_dead_tie_is_that_of_an_empty_table(self):
        """Though a tie of one row alone could be told where something else is pushed."""
        for text in ("a b c : nnn\nb :", "a : n y\nb a : nn ny\na b :"):
            told = self.shut(text, "no")
            names, net = read_net(text)
            self.assertEqual(net[1][told.paper[1]][1], 0)


class ByYes(Case):
    def test_met(self):
        self.met("a : y", "yes", "a")
        self.met("a b : yy yn", "yes", "a b")
        self.met("a b : yn yy\nc d : yy ny", "yes", "a b c d")
        self.met("l k j i : yyyy\nh g f e : yyyy nyyy\nd c b a : yyyy", "yes", "a b c d e f g h i j k l")

    def test_all_are_yes_also_in_no_tie(self):
        told = self.check_settled((12, (((5,), 0b10),)))
        self.assertEqual((told.keeper, told.setting), ("yes", (1 << 12) - 1))
        self.assertEqual(told.shown(TWELVE), ["met yes {a b c d e f g h i j k l}"])

    def test_more_than_the_least(self):
        told = self.met("a : y\nb c : nn yy", "yes", "a b c")
        self.assertEqual(told.setting, 7)

    def test_shut(self):
        self.assertEqual(self.shut("a : y\nb :", "yes").paper[1], 1)
        self.assertEqual(self.shut("b a :\na : y", "yes").paper[1], 0)
        self.assertEqual(self.shut("a : y\na b : nn yy\nb c : nn yy\nc :", "yes").paper[1], 3)


class ByLeast(Case):
    def test_met(self):
        self.met("a : y\nb : n", "least", "a")
        self.met("a : y\na b : nn ny yy\nc : n\nb c d : nnn nny ynn yny yyy nyy", "least", "a b")
        self.met("x : y\nx y z : nnn yny\nw : n", "least", "x z")

    def test_shut(self):
        told = self.shut("a : y\na : n", "least")
        self.assertEqual(told.paper, (((0, 0),), 1))
        self.assertEqual(told.shown(("a",)), ["shut least 1"])
        told = self.shut("a : y\na b : nn ny yy\nb c : nn ny yy\nc : n", "least")
        self.assertEqual(told.shown(("a", "b", "c")), ["shut least 3"])
        self.shut("a : y\nb : n\nc :", "least")

    def test_an_unknown_in_no_tie_is_no(self):
        told = self.check_settled((4, (((0,), 0b10), ((1,), 0b01))))
        self.assertEqual((told.keeper, told.setting), ("least", 1))


class ByMost(Case):
    def test_met(self):
        self.met("a b : yn ny yy\nc : n", "most", "a b")
        self.met("a b : yn ny yy\nb : n", "most", "a")
        self.met("a b c : yny nyy yyy\nc d : yn\na : n", "most", "b c")

    def test_shut(self):
        told = self.shut("a b : yn ny yy\na : n\nb : n", "most")
        self.assertEqual(told.shown(("a", "b"))[0][:10], "shut most ")
        self.assertIsNone(push_fault(read_net("a b : yn ny yy\na : n\nb : n")[1], "down", told.paper[0]))
        self.assertGreater(len(told.paper[0]), 0)

    def test_an_unknown_in_no_tie_is_yes(self):
        told = self.check_settled((5, (((0, 1), 0b1110), ((2,), 0b01))))
        self.assertEqual((told.keeper, told.setting), ("most", 0b11011))


class ByMiddle(Case):
    def test_met(self):
        told, shown = self.settle("a b : yn ny")
        self.assertIn(shown, (["met middle {a}"], ["met middle {b}"]))
        self.met("a b : yn ny\nb c : nn ny yy\nc : n", "middle", "a")

    def test_shut(self):
        text = "a b : yn ny\nb c : yn ny\na c : yn ny"
        told = self.shut(text, "middle")
        self.assertIsNone(line_fault(read_net(text)[1], told.paper))
        self.assertEqual(told.shown(("a", "b", "c")), ["shut middle " + str(len(told.paper))])


class ByOdd(Case):
    def test_met(self):
        text = "a b c : ynn nyn nny yyy\na b : yn ny"
        told, shown = self.settle(text)
        self.assertEqual((told.called(), told.keeper), ("met", "odd"))
        self.met(text + "\nb : n", "odd", "a")

    def test_shut(self):
        text = "a b c : ynn nyn nny yyy\na b : yn ny\nc : y"
        told = self.shut(text, "odd")
        self.assertIsNone(term_fault(read_net(text)[1], told.paper))
        self.assertEqual(told.shown(("a", "b", "c")), ["shut odd 3"])


class ByNone(Case):
    def test_one_of_three(self):
        told, shown = self.loose("a b c : ynn nyn nny")
        self.assertEqual([pair[0] for pair in told.breaches], [0] * 6)
        self.assertEqual(shown[0], "loose")
        self.assertEqual([row.split(" ")[:2] for row in shown[1:]], [[mix, "0"] for mix in MIXES])
        self.assertIn(shown[1], ("no 0 ynn", "no 0 nyn", "no 0 nny"))
        self.assertEqual(sorted(shown[5].split(" ")), ["0", "middle", "nny", "nyn", "ynn"])

    def test_ties_of_other_widths(self):
        """No is broken by the tie 2 alone of the first three, yes by 1; least by 3, most by 4, middle by 5 alone."""
        text = (
            "z : n y\ny : n\nx : y\na b : yn ny yy\nc d : yn ny nn\n"
            "d c b a : nnnn ynnn nynn yynn nnyn ynyn nyyn nnny ynny nyny yyny nnyy ynyy nyyy yyyy\n"
            "w v : nn ny yy"
        )
        told, shown = self.loose(text)
        self.assertEqual([pair[0] for pair in told.breaches[:4]], [2, 1, 3, 4])
        self.assertEqual(told.breaches[4][0], 5)
        self.assertEqual(shown[1:3], ["no 2 y", "yes 1 n"])
        self.assertIn(shown[3], ("least 3 yn ny", "least 3 ny yn"))
        self.assertIn(shown[4], ("most 4 yn ny", "most 4 ny yn"))

    def test_a_loose_net_that_is_met_and_one_that_is_not(self):
        self.loose("a b c : ynn nyn nny\na : y")
        self.loose("a b c : ynn nyn nny\na :")
        self.loose("a b c : ynn nyn nny\na : n\nb : n\nc : n")

    def test_the_last_of_24_ties(self):
        net = (12, tuple(((k % 12,), 0b11) for k in range(23)) + (((11, 2, 5), 0b00010110),))
        told = self.check_settled(net)
        self.assertEqual([pair[0] for pair in told.breaches], [23] * 6)
        self.check_shown(net, TWELVE, told)


class Shown(Case):
    def test_the_names_that_are_yes(self):
        told = settled((12, tuple(((k,), 0b10 if k % 3 == 0 else 0b01) for k in range(12))))
        self.assertEqual(told.shown(TWELVE), ["met least {a d g j}"])
        self.assertEqual(told.shown(list(TWELVE)), ["met least {a d g j}"])
        other = ["aa", "b", "ccc", "dddddddddddd", "e", "f", "no", "ny", "x", "yes", "yn", "z"]
        self.assertEqual(told.shown(other), ["met least {aa dddddddddddd no yes}"])

    def test_many_steps(self):
        ties = (((0,), 0b10),) + tuple(((k, k + 1), 0b1101) for k in range(11)) + (((11,), 0b01),)
        told = settled((12, ties))
        self.assertEqual(told.shown(TWELVE), ["shut least 12"])

    def test_shown_again(self):
        for net in ((2, (((0,), 0b10),)), (1, (((0,), 0),)), (3, (((0, 1, 2), 0b00010110),))):
            told = settled(net)
            names = list(TWELVE[:net[0]])
            first = told.shown(names)
            kept = list(first)
            first.append("more")
            first[0] = "other"
            self.assertEqual(told.shown(names), kept)
            self.assertEqual(settled(net).shown(names), kept)
            self.assertEqual(names, list(TWELVE[:net[0]]))


class ManyNets(Case):
    def fields(self, told):
        return (told.called(), vars(told))

    def test_every_net_of_one_tie(self):
        seen = {}
        for scope in ((0,), (1, 0), (0, 2, 1)):
            for table in range(1 << (1 << len(scope))):
                net = (len(scope), ((scope, table),))
                told = self.check_settled(net)
                self.check_shown(net, TWELVE[:len(scope)], told)
                seen[told.called()] = True
        self.assertEqual(len(seen), 3)

    def test_every_two_ties_of_two_unknowns(self):
        for first, second in itertools.product(range(16), repeat=2):
            self.check_settled((2, (((0, 1), first), ((1, 0), second))))

    def test_nets_of_each_keeper(self):
        for mix in MIXES:
            chance = random.Random(61)
            seen = {"met": 0, "shut": 0}
            for number in range(120):
                met = number % 2 == 0
                net = first_kept_net(chance, chance.randint(3, 7), chance.randint(2, 13), mix, met)
                told = self.check_settled(net)
                self.check_shown(net, TWELVE[:net[0]], told)
                self.assertEqual(told.keeper, mix)
                self.assertEqual(keepers(net)[0], mix)
                seen[told.called()] += 1
            self.assertGreater(min(seen.values()), 20, (mix, seen))

    def test_nets_of_some_keepers(self):
        for mix in MIXES:
            for net in some_nets(62, 60, 6, 8, mix):
                self.check_shown(net, TWELVE[:net[0]], self.check_settled(net))

    def test_other_nets(self):
        seen = {}
        for net in some_nets(64, 400, 6, 6):
            told = self.check_settled(net)
            self.check_shown(net, TWELVE[:net[0]], told)
            seen[told.called()] = seen.get(told.called(), 0) + 1
        self.assertGreater(seen["loose"], 40)
        self.assertGreater(seen["met"], 5)

    def test_the_widest_nets(self):
        chance = random.Random(65)
        for mix in MIXES:
            for ties, met in itertools.product((3, 10, 24), (True, False)):
                net = first_kept_net(chance, 12, ties, mix, met)
                self.check_shown(net, TWELVE, self.check_settled(net))
        for number in range(5):
            self.check_settled(some_net(chance, 12, 24))

    def test_the_same_whenever_it_is_asked(self):
        nets = [net for mix in MIXES + (None,) for net in some_nets(66, 12, 7, 6, mix)]
        first = [self.fields(settled(net)) for net in nets]
        again = [self.fields(settled(net)) for net in reversed(nets)]
        self.assertEqual(again, first[::-1])


if __name__ == "__main__":
    unittest.main()
