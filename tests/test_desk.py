"""The desk: what it is asked, what it answers, and what is refused."""

import itertools
import random
import re
import unittest

from mixkeep.desk import Desk
from mixkeep.errors import LineError, MixError, NoAsk, NoLine, NoName, NoTie, TooMany, Twice, Unlike
from mixkeep.lines import read_net, shown_net
from mixkeep.outcomes import settled
from slowly import MIXES, letters, rows_of, slowly_hulled, slowly_kept, slowly_met

RING = "a b : yn ny\nb c : yn ny\na c : yn ny"
FULL = "\n".join(["a : y"] * 24)
TWELVE_NAMES = "a b c d :\ne f g h : yyyy\nl k j i :"
QUESTIONS = ("settle", "keepers", "meets", "net", "hull least 0", "hull odd 1")


class Case(unittest.TestCase):
    def told(self, desk, line, due):
        """Checks an answer, and that it is a list of texts."""
        answer = desk.ask(line)
        self.assertIs(type(answer), list, line)
        self.assertEqual([type(text) for text in answer], [str] * len(answer), line)
        self.assertEqual(answer, due, line)

    def seen(self, desk):
        """What a desk can be made to show of itself."""
        told = []
        for line in QUESTIONS:
            try:
                told.append(desk.ask(line))
            except MixError as error:
                told.append(type(error))
        return told

    def refused(self, desk, error, line, number=None):
        """Checks the very class of a refusal, its line's number where it has one, and that it changed nothing."""
        before = self.seen(desk)
        with self.assertRaises(MixError, msg=repr(line)) as caught:
            desk.ask(line)
        self.assertIs(type(caught.exception), error, line)
        if issubclass(error, LineError):
            self.assertIs(type(caught.exception.line), int)
            self.assertEqual(caught.exception.line, number, line)
        self.assertEqual(self.seen(desk), before, line)

    def not_begun(self, error, text, number):
        with self.assertRaises(LineError, msg=repr(text)) as caught:
            Desk(text)
        self.assertIs(type(caught.exception), error, text)
        self.assertEqual(caught.exception.line, number, text)


class Begun(Case):
    def test_without_a_text(self):
        for desk in (Desk(), Desk("")):
            self.told(desk, "net", [])
            self.told(desk, "settle", ["met no {}"])
            self.told(desk, "keepers", ["no yes least most middle odd"])
            self.told(desk, "meets", ["yes"])
            self.refused(desk, NoTie, "hull no 0")
            self.refused(desk, NoTie, "drop 0")
            self.refused(desk, NoName, "meets a")

    def test_with_a_text(self):
        desk = Desk("b a : yy yn\nc : n y")
        self.told(desk, "net", ["b a : yn yy", "c : n y"])
        self.told(Desk(text="a : y"), "net", ["a : y"])

    def test_refused_texts(self):
        self.not_begun(NoLine, "\n", 0)
        self.not_begun(NoLine, "a : y\n", 1)
        self.not_begun(NoLine, "a : y\n\nb : y", 1)
        self.not_begun(NoLine, "a", 0)
        self.not_begun(TooMany, "a : y\na b c d e : yyyyy", 1)
        self.not_begun(Twice, "a a : yy", 0)
        self.not_begun(Twice, "a b : yy ny yy", 0)
        self.not_begun(Unlike, "a b : yy\na b : y", 1)
        self.not_begun(TooMany, FULL + "\na : y", 24)
        self.not_begun(TooMany, TWELVE_NAMES + "\nm : y", 3)


class Settle(Case):
    def test_by_hand(self):
        self.told(Desk("a b : nn yn"), "settle", ["met no {}"])
        self.told(Desk("c a : yy yn"), "settle", ["met yes {a c}"])
        self.told(Desk("a : y\nb : n"), "settle", ["met least {a}"])
        self.told(Desk("a b : yn ny yy\nc : n"), "settle", ["met most {a b}"])
        self.told(Desk("a b : yn ny\nb : n\nb c : nn ny yy\nc : n"), "settle", ["met middle {a}"])
        self.told(Desk("a b c : ynn nyn nny yyy\na b : yn ny\nb : n"), "settle", ["met odd {a}"])
        self.told(Desk("a :"), "settle", ["shut no 0"])
        self.told(Desk("a : y\na : n"), "settle", ["shut least 1"])
        self.told(Desk("a b c : ynn nyn nny yyy\na b : yn ny\nc : y"), "settle", ["shut odd 3"])

    def test_what_settled_tells(self):
        for text in (RING, "a b c : ynn nyn nny", "a : y\nb : n\nc :", FULL, TWELVE_NAMES, "x y : ny\nz x : yy yn"):
            names, net = read_net(text)
            self.told(Desk(text), "settle", settled(net).shown(names))

    def test_loose(self):
        answer = Desk("z : n y\na b c : ynn nyn nny").ask("settle")
        self.assertEqual(len(answer), 7)
        self.assertEqual(answer[0], "loose")
        self.assertEqual([row.split(" ")[:2] for row in answer[1:]], [[mix, "1"] for mix in MIXES])


class Keepers(Case):
    def test_by_hand(self):
        self.told(Desk("a : n"), "keepers", ["no least most middle odd"])
        self.told(Desk("a : y\na : n"), "keepers", ["least most middle odd"])
        self.told(Desk("a b : yn ny"), "keepers", ["middle odd"])
        self.told(Desk("a b c : ynn nyn nny yyy\na b : yn ny"), "keepers", ["odd"])

    def test_none(self):
        self.told(Desk("a b c : ynn nyn nny"), "keepers", [])


class Meets(Case):
    def test_by_hand(self):
        desk = Desk("b a : yn ny\nc : n\nb c : nn yn")
        self.told(desk, "meets a", ["yes"])
        self.told(desk, "meets b", ["yes"])
        self.told(desk, "meets", ["no 0"])
        self.told(desk, "meets a b", ["no 0"])
        self.told(desk, "meets b a", ["no 0"])
        self.told(desk, "meets c a", ["no 1"])
        self.told(desk, "meets a b c", ["no 0"])
        self.told(Desk("a : n\nb : n"), "meets", ["yes"])

    def test_a_name_twice(self):
        desk = Desk("a : y\nb : n")
        self.told(desk, "meets a a", ["yes"])
        self.told(desk, "meets a a a a a a a a a a a a a a a", ["yes"])
        self.told(desk, "meets a b a", ["no 1"])
        self.told(desk, "meets b b", ["no 0"])
        self.told(desk, "meets " + " ".join(["a"] * 2900), ["yes"])

    def test_the_last_tie(self):
        self.told(Desk("\n".join(["a : n y"] * 23 + ["b : y"])), "meets a", ["no 23"])

    def test_all_names(self):
        desk = Desk("a b c d : yyyy\ne f g h : yyyy\nl k j i : yyyy")
        self.told(desk, "meets l k j i h g f e d c b a", ["yes"])
        self.told(desk, "meets a b c d e f g h i j k", ["no 2"])

    def test_names_like_words(self):
        desk = Desk("meets no : yn\nyes net : ny\nodd : y")
        self.told(desk, "meets meets net odd", ["yes"])
        self.told(desk, "meets meets net", ["no 2"])

    def test_no_such_name(self):
        desk = Desk("a b : yn ny")
        for line in ("meets c", "meets a c", "meets c a", "meets ab", "meets abcdefghijkl", "meets a b zz"):
            self.refused(desk, NoName, line)


class Hull(Case):
    def test_by_hand(self):
        desk = Desk("a b : yn ny\nb : n y\nc a b : ynn nyn nny\nd :\na : y")
        self.told(desk, "hull no 0", ["nn yn ny"])
        self.told(desk, "hull yes 0", ["yn ny yy"])
        self.told(desk, "hull least 0", ["nn yn ny"])
        self.told(desk, "hull most 0", ["yn ny yy"])
        self.told(desk, "hull middle 0", ["yn ny"])
        self.told(desk, "hull odd 0", ["yn ny"])
        self.told(desk, "hull middle 2", ["nnn ynn nyn nny"])
        self.told(desk, "hull odd 2", ["ynn nyn nny yyy"])
        self.told(desk, "hull least 2", ["nnn ynn nyn nny"])
        self.told(desk, "hull most 2", ["ynn nyn yyn nny yny nyy yyy"])
        self.told(desk, "hull no 4", ["n y"])
        for mix in MIXES:
            self.told(desk, "hull " + mix + " 1", ["n y"])
            self.told(desk, "hull " + mix + " 3", [])

    def test_many(self):
        chance = random.Random(71)
        for number in range(100):
            width = chance.randint(1, 4)
            table = chance.randrange(1 << (1 << width)) & chance.randrange(1 << (1 << width))
            rows = ["".join(letters(width, row)) for row in rows_of(width, table)]
            chance.shuffle(rows)
            names = chance.sample("abcdef", width)
            desk = Desk("x y : ny\n" + " ".join(names + [":"] + rows))
            for mix in MIXES:
                whole = rows_of(width, slowly_hulled(mix, width, table))
                due = " ".join("".join(letters(width, row)) for row in whole)
                self.told(desk, "hull " + mix + " 1", [due] if whole else [])
                self.told(desk, "net", ["x y : ny", " ".join(names + [":"] + sorted(rows, key=rise))])

    def test_no_such_line(self):
        desk = Desk(RING)
        for number in ("3", "4", "10", "24", "99", "999", "9999", "1000"):
            self.refused(desk, NoTie, "hull no " + number)
            self.refused(desk, NoTie, "drop " + number)
        self.refused(Desk(FULL), NoTie, "hull no 24")
        self.told(Desk(FULL), "hull no 23", ["n y"])


def rise(word):
    """The key by which rows rise: their last letter counts most, and y more than n."""
    return word[::-1]


class Net(Case):
    def test_by_hand(self):
        self.told(Desk("b a : yy ny nn"), "net", ["b a : nn ny yy"])
        self.told(Desk("a :"), "net", ["a :"])
        self.told(Desk(FULL), "net", ["a : y"] * 24)
        self.told(Desk("c : y n\na : n\nb : y"), "net", ["c : n y", "a : n", "b : y"])

    def test_what_it_shows_is_read_as_the_same(self):
        for text in (RING, TWELVE_NAMES, "b a : yy ny\nb : y n\n" + RING):
            told = "\n".join(Desk(text).ask("net"))
            self.assertEqual(read_net(told), read_net(text))
            self.assertEqual(told, shown_net(*read_net(text)))


class Tell(Case):
    def test_by_hand(self):
        desk = Desk()
        self.told(desk, "tell b a : yy ny", [])
        self.told(desk, "net", ["b a : ny yy"])
        self.told(desk, "tell c : n", [])
        self.told(desk, "tell c : n", [])
        self.told(desk, "tell a :", [])
        self.told(desk, "net", ["b a : ny yy", "c : n", "c : n", "a :"])
        self.told(desk, "settle", ["shut least 0"])
        self.told(desk, "meets a", ["no 3"])
        self.told(desk, "hull no 0", ["nn ny yy"])

    def test_behind_a_text(self):
        desk = Desk(RING)
        self.told(desk, "tell d : y", [])
        self.told(desk, "net", ["a b : yn ny", "b c : yn ny", "a c : yn ny", "d : y"])

    def test_no_line(self):
        for text in ("", RING):
            many = text.count("\n") + 1 if text else 0
            desk = Desk(text)
            lines = (
                "", " ", "  ", "a", "a b", ":", " : y", "a: y", "a :y", "a  : y", " a : y", "a : y ", "a :  y", "a : ",
                "A : y", "a : Y", "a1 : y", "abcdefghijklm : y", "a : x", "a : y : y", "a ; y", "tell a y",
                "settle", "\n", "a : y\n", "\na : y", "a : y\nb : y", "a :\nb :", "a\nb : yy", "a : y\ty",
            )
            for line in lines:
                self.refused(desk, NoLine, "tell " + line, many)

    def test_refused_otherwise(self):
        for text in ("", RING):
            many = text.count("\n") + 1 if text else 0
            desk = Desk(text)
            self.refused(desk, TooMany, "tell a b c d e :", many)
            self.refused(desk, TooMany, "tell a b c d a : y y", many)
            self.refused(desk, Twice, "tell a a :", many)
            self.refused(desk, Twice, "tell a b a : yy", many)
            self.refused(desk, Unlike, "tell a b : y", many)
            self.refused(desk, Unlike, "tell a b : yy yy yyy", many)
            self.refused(desk, Unlike, "tell tell a : y", many)
            self.refused(desk, Twice, "tell a b : yy nn yy", many)

    def test_the_25th_line(self):
        desk = Desk(FULL)
        self.refused(desk, TooMany, "tell a : y", 24)
        self.refused(desk, TooMany, "tell b :", 24)
        self.refused(desk, NoLine, "tell ", 24)
        self.refused(desk, NoLine, "tell b : y\nb : y", 24)
        self.refused(desk, Twice, "tell b b : yy", 24)
        self.refused(desk, Unlike, "tell b : yy", 24)
        self.told(desk, "drop 7", [])
        self.told(desk, "tell b : n", [])
        self.told(desk, "net", ["a : y"] * 23 + ["b : n"])
        self.refused(desk, TooMany, "tell a : y", 24)

    def test_line_by_line_up_to_24(self):
        desk = Desk()
        for number in range(24):
            self.told(desk, "tell a : n", [])
        self.refused(desk, TooMany, "tell a : n", 24)
        self.told(desk, "net", ["a : n"] * 24)

    def test_the_13th_name(self):
        desk = Desk(TWELVE_NAMES)
        self.refused(desk, TooMany, "tell m : y", 3)
        self.refused(desk, TooMany, "tell a m : yy", 3)
        self.refused(desk, Unlike, "tell m : yy", 3)
        self.told(desk, "tell a l : yy", [])
        self.told(desk, "drop 0", [])
        self.told(desk, "tell m n b : yyy", [])
        self.refused(desk, TooMany, "tell c : y", 4)
        self.told(desk, "tell n : y", [])


class Drop(Case):
    def test_by_hand(self):
        desk = Desk(RING + "\nd : y")
        self.told(desk, "drop 1", [])
        self.told(desk, "net", ["a b : yn ny", "a c : yn ny", "d : y"])
        self.told(desk, "drop 2", [])
        self.told(desk, "net", ["a b : yn ny", "a c : yn ny"])
        self.refused(desk, NoTie, "drop 2")
        self.refused(desk, NoName, "meets d")
        self.told(desk, "drop 0", [])
        self.told(desk, "net", ["a c : yn ny"])
        self.refused(desk, NoName, "meets b")
        self.told(desk, "meets c", ["yes"])
        self.told(desk, "drop 0", [])
        self.told(desk, "net", [])
        self.refused(desk, NoTie, "drop 0")
        self.told(desk, "settle", ["met no {}"])

    def test_of_lines_alike(self):
        desk = Desk("a : y\nb : n\na : y")
        self.told(desk, "drop 2", [])
        self.told(desk, "net", ["a : y", "b : n"])
        desk = Desk("a : y\nb : n\na : y")
        self.told(desk, "drop 0", [])
        self.told(desk, "net", ["b : n", "a : y"])

    def test_the_answers_are_those_of_the_lines_kept_now(self):
        desk = Desk(RING)
        self.assertEqual(desk.ask("settle")[0][:12], "shut middle ")
        self.told(desk, "drop 2", [])
        self.assertEqual(desk.ask("settle")[0][:11], "met middle ")
        self.told(desk, "tell a :", [])
        self.assertEqual(desk.ask("settle")[0][:12], "shut middle ")
        self.told(desk, "tell a b c : ynn nyn nny", [])
        self.assertEqual(desk.ask("settle")[0], "loose")
        self.told(desk, "keepers", [])
        self.told(desk, "drop 3", [])
        self.told(desk, "keepers", ["middle odd"])


class HoweverTheLinesCame(Case):
    def test_the_same_answers(self):
        """A desk begun with lines, one told them, and one told others too that were dropped, answer alike."""
        questions = ["settle", "keepers", "net", "meets", "meets a", "meets c b", "meets c a b"]
        questions += ["hull " + mix + " " + str(number) for mix in MIXES for number in range(3)]
        for text in (RING, "b a : yy yn\nc b : nn\nb : y", "c b a : ynn nyn nny\na : y\nb : n", "c b a :\na :\nb :"):
            begun, told, dropped = Desk(text), Desk(), Desk("z : y\nx w : yy\na z : ny")
            for line in text.split("\n"):
                told.ask("tell " + line)
                dropped.ask("tell " + line)
                dropped.ask("tell v b : yn")
                dropped.ask("drop " + str(len(dropped.ask("net")) - 1))
            for number in ("1", "0", "0"):
                dropped.ask("drop " + number)
            for question in questions:
                self.told(told, question, begun.ask(question))
                self.told(dropped, question, begun.ask(question))


class Refused(Case):
    def test_no_such_word(self):
        lines = (
            "", " ", "  ", "a", "Settle", "SETTLE", "settled", "sett", " settle", "settle\n", "\nsettle", "net\n",
            "nets", "keeper", "meet a", "hulls no 0", "told a : y", "tells a : y", "drops 0", "0", "a : y",
            "tell\na : y", "help", "quit", "settle,", "no", "met", "show", "tell\n",
        )
        for desk in (Desk(), Desk(RING)):
            for line in lines:
                self.refused(desk, NoAsk, line)

    def test_words_lacking_or_too_many(self):
        lines = (
            "settle ", "settle a", "settle  ", "settle 0", "keepers ", "keepers a", "keepers no", "net ", "net 0",
            "net  ", "hull", "hull ", "hull no", "hull no ", "hull 0", "hull  0", "hull no 0 ", "hull no 0 0",
            "hull no  0", " hull no 0", "hull no 0 a", "drop", "drop ", "drop 0 ", "drop  0", "drop 0 0", "drop 0 1",
            "tell",
        )
        for desk in (Desk(), Desk(RING)):
            for line in lines:
                self.refused(desk, NoAsk, line)

    def test_no_name(self):
        lines = (
            "meets ", "meets  ", "meets a ", "meets  a", "meets a  b", "meets A", "meets a B", "meets a1", "meets 0",
            "meets a,b", "meets abcdefghijklm", "meets a\nb", "meets a\n", "meets a:", "meets :", "meets a_b",
            "meets {a}", "meets ~",
        )
        for desk in (Desk(), Desk(RING)):
            for line in lines:
                self.refused(desk, NoAsk, line)

    def test_no_mix(self):
        words = ("", "No", "NO", "noo", "n", "leasts", "max", "a", "0", "middle\n", "up", "down", "met", "none")
        for desk in (Desk(), Desk(RING)):
            for word in words:
                self.refused(desk, NoAsk, "hull " + word + " 0")

    def test_no_number(self):
        words = (
            "", "a", "-1", "+1", "-0", "00", "01", "007", "0000", "00000", "10000", "12345", "1.0", "1e3", "0x1", "1_0",
            "one", "0a", "a0", "0\n", "\n0", "99999", "9" * 70, "0" * 70, "1,", "#0", "1/1", "1:", "1" + "0" * 60,
        )
        for desk in (Desk(), Desk(RING), Desk(FULL)):
            for word in words:
                self.refused(desk, NoAsk, "drop " + word)
                self.refused(desk, NoAsk, "hull odd " + word)

    def test_form_goes_first(self):
        desk = Desk(RING)
        self.refused(desk, NoAsk, "meets zz Z")
        self.refused(desk, NoAsk, "meets Z zz")
        self.refused(desk, NoAsk, "meets zz ")
        self.refused(desk, NoAsk, "hull max 9")
        self.refused(desk, NoAsk, "hull no 9 9")
        self.refused(desk, NoAsk, "drop 9 9")
        self.refused(desk, NoName, "meets zz")
        self.refused(desk, NoTie, "hull no 9")
        self.refused(desk, NoTie, "drop 9")

    def test_long_lines(self):
        desk = Desk(RING)
        self.refused(desk, NoAsk, "x" * 6000)
        self.refused(desk, NoAsk, " " * 6000)
        self.refused(desk, NoAsk, "meets " + "a" * 5000)
        self.refused(desk, NoAsk, "drop " + "1" * 5900)
        self.refused(desk, NoLine, "tell " + "a" * 5900, 3)
        self.refused(desk, TooMany, "tell " + "a " * 2900 + ":", 3)


class Apart(Case):
    def test_two_desks(self):
        first, second = Desk(RING), Desk(RING)
        empty = Desk()
        first.ask("drop 2")
        first.ask("tell d : y")
        self.told(second, "net", RING.split("\n"))
        self.told(empty, "net", [])
        second.ask("drop 0")
        empty.ask("tell z : n")
        self.told(first, "net", ["a b : yn ny", "b c : yn ny", "d : y"])
        self.told(second, "net", ["b c : yn ny", "a c : yn ny"])
        self.told(empty, "net", ["z : n"])
        self.told(Desk(), "net", [])

    def test_lists_that_were_told_stay(self):
        desk = Desk("a b c : ynn nyn nny\nd : y")
        lines = ("settle", "keepers", "meets a d", "hull no 0", "net", "tell e : n", "drop 2")
        first = [desk.ask(line) for line in lines]
        kept = [list(answer) for answer in first]
        for line in ("drop 0", "tell x y : yn ny", "settle", "net", "keepers", "hull odd 1", "meets", "drop 0"):
            desk.ask(line)
        self.assertEqual(first, kept)

    def test_changed_lists_change_no_answer(self):
        lines = ("settle", "keepers", "meets a d", "hull no 0", "net", "tell e : n", "drop 2", "net", "settle")
        due = [Desk("a b c : ynn nyn nny\nd : y").ask(line) for line in lines[:5]]
        desk = Desk("a b c : ynn nyn nny\nd : y")
        for again in range(3):
            for line in lines:
                answer = desk.ask(line)
                answer.append("more")
                answer[0] = "other"
            for line, told in zip(lines, due):
                self.told(desk, line, told)


class Model:
    """A second desk: lines as a plain list, and what is asked read by patterns."""

    def __init__(self, text):
        self.lines = text.split("\n") if text else []

    def ask(self, line):
        """An answer, or the class of a refusal; of `settle`, nothing but what `settled` tells."""
        names, net = read_net("\n".join(self.lines))
        if re.fullmatch("settle", line):
            return settled(net).shown(names)
        if re.fullmatch("keepers", line):
            kept = [mix for mix in MIXES if all(slowly_kept(mix, len(scope), table) for scope, table in net[1])]
            return [" ".join(kept)] * (kept != [])
        if re.fullmatch("net", line):
            return shown_net(names, net).split("\n") if self.lines else []
        if re.fullmatch("meets( [a-z]{1,12})*", line):
            return self.meets(names, net, line.split(" ")[1:])
        if re.fullmatch("hull (no|yes|least|most|middle|odd) (0|[1-9][0-9]{0,3})", line):
            return self.hull(net, line.split(" ")[1], int(line.split(" ")[2]))
        if re.fullmatch("drop (0|[1-9][0-9]{0,3})", line):
            return self.drop(int(line.split(" ")[1]))
        if line.startswith("tell "):
            return self.tell(line[5:])
        return NoAsk

    def meets(self, names, net, named):
        if set(named) - set(names):
            return NoName
        met = slowly_met(net, sum(1 << names.index(name) for name in set(named)))
        return ["no " + str(met.index(False))] if False in met else ["yes"]

    def hull(self, net, mix, number):
        if number >= len(self.lines):
            return NoTie
        scope, table = net[1][number]
        whole = slowly_hulled(mix, len(scope), table)
        rows = ["".join(letters(len(scope), row)) for row in rows_of(len(scope), whole)]
        return [" ".join(rows)] * (rows != [])

    def drop(self, number):
        if number >= len(self.lines):
            return NoTie
        self.lines.pop(number)
        return []

    def tell(self, line):
        if line == "" or "\n" in line:
            return NoLine
        try:
            read_net("\n".join(self.lines + [line]))
        except LineError as error:
            return type(error)
        self.lines.append(line)
        return []


def some_line(chance, names):
    """A line, of which every fifth or so is at fault in some way."""
    named = chance.sample(names, chance.randint(1, 4))
    rows = ["".join(row) for row in itertools.product("yn", repeat=len(named))]
    line = " ".join(named + [":"] + chance.sample(rows, chance.randint(0, len(rows))))
    fault = chance.randrange(20)
    if fault == 0:
        return line + " y"
    if fault == 1:
        return line.replace(" :", ":")
    if fault == 2:
        return line + "\n" + line
    if fault == 3:
        return named[0] + " " + line
    return line


def some_question(chance, names):
    """A line to ask a desk, of which some are refused."""
    word = chance.choice(("settle", "keepers", "net", "meets", "meets", "hull", "tell", "tell", "tell", "drop", "odd"))
    if word == "meets":
        return " ".join(["meets"] + chance.choices(names, k=chance.randint(0, 6)))
    if word == "hull":
        return "hull " + chance.choice(MIXES + ("more",)) + " " + str(chance.choice((0, 0, 1, 2, 5, 24, "x", "00")))
    if word == "tell":
        return "tell " + some_line(chance, names)
    if word == "drop":
        return "drop " + str(chance.choice((0, 0, 1, 3, 9, 30, "", "01")))
    return word + chance.choice(("",) * 9 + (" ",))


class Long(Case):
    def test_against_a_second_desk(self):
        seen = {}
        for seed in range(40):
            chance = random.Random(seed)
            names = [chance.choice("abcdefgh") + "xyz"[: k % 4] + "pqrstuvwklmnoi"[k] for k in range(14)]
            text = "" if seed % 2 else "x : n\nx y : nn yn"
            desk, model = Desk(text), Model(text)
            for number in range(60):
                line = some_question(chance, names + ["x"])
                due = model.ask(line)
                if isinstance(due, list):
                    self.told(desk, line, due)
                else:
                    with self.assertRaises(due, msg=line) as caught:
                        desk.ask(line)
                    self.assertIs(type(caught.exception), due)
                seen[line.split(" ")[0] if isinstance(due, list) else due] = True
            self.told(desk, "net", model.ask("net"))
        words = {"settle", "keepers", "net", "meets", "hull", "tell", "drop"}
        self.assertEqual(set(seen), words | {NoAsk, NoLine, NoName, NoTie, TooMany, Twice, Unlike})


if __name__ == "__main__":
    unittest.main()
