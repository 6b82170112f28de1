"""Lines and nets: read, refused and shown."""

import itertools
import re
import unittest

from mixkeep.errors import LineError, NoLine, TooMany, Twice, Unlike
from mixkeep.lines import read_line, read_net, shown_net, shown_row

TWELVE_NAMES = "a b c d :\ne f g h : yyyy\nl k j i :"


class Case(unittest.TestCase):
    def refused(self, error, number, asked, *handed, **named):
        """Checks the very class of a refusal, and the number in its field `line`."""
        with self.assertRaises(LineError, msg=repr(handed)) as caught:
            asked(*handed, **named)
        self.assertIs(type(caught.exception), error, handed)
        self.assertIs(type(caught.exception.line), int)
        self.assertEqual(caught.exception.line, number, handed)

    def alike(self, told, due):
        """Checks a value and all kinds in it, as True == 1 would pass else."""
        self.assertEqual(told, due)
        self.assertEqual(repr(told), repr(due))


class ReadLine(Case):
    def test_ordinary(self):
        self.alike(read_line("a b : yn ny"), (("a", "b"), (1, 2)))
        self.alike(read_line("a :"), (("a",), ()))

    def test_one_name_and_four(self):
        self.alike(read_line("x : y"), (("x",), (1,)))
        self.alike(read_line("d c b a : ynnn nnny"), (("d", "c", "b", "a"), (1, 8)))

    def test_lengths_of_names(self):
        self.alike(read_line("z abcdefghijkl : ny"), (("z", "abcdefghijkl"), (2,)))
        self.alike(read_line("mnopqrstuvwx yz : ny"), (("mnopqrstuvwx", "yz"), (2,)))
        self.refused(NoLine, 0, read_line, "abcdefghijklm :")
        self.refused(NoLine, 0, read_line, "a abcdefghijklm : yy")

    def test_names_of_the_rows_letters(self):
        self.alike(read_line("y n : yy"), (("y", "n"), (3,)))

    def test_names_keep_their_order(self):
        self.alike(read_line("c a b :"), (("c", "a", "b"), ()))

    def test_no_rows_and_all_rows(self):
        for width in range(1, 5):
            names = "abcd"[:width]
            self.alike(read_line(" ".join(names) + " :"), (tuple(names), ()))
            rows = ["".join(row) for row in itertools.product("yn", repeat=width)]
            text = " ".join(names) + " : " + " ".join(rows)
            self.alike(read_line(text), (tuple(names), tuple(range(1 << width))))

    def test_rows_rise_whatever_their_order(self):
        for rows in itertools.permutations(("nn", "yn", "ny", "yy")):
            self.alike(read_line("a b : " + " ".join(rows)), (("a", "b"), (0, 1, 2, 3)))

    def test_line_left_out_by_place_and_by_name(self):
        self.refused(NoLine, 0, read_line, "")
        self.refused(NoLine, 5, read_line, "", 5)
        self.refused(NoLine, 6, read_line, "", line=6)
        self.refused(NoLine, 7, read_line, text="", line=7)
        self.alike(read_line("a : y", 30), (("a",), (1,)))
        self.alike(read_line("a : y", line=30), (("a",), (1,)))

    def test_each_refusal_bears_the_line(self):
        faults = (
            (NoLine, "a b"),
            (TooMany, "a b c d e :"),
            (Twice, "a b a :"),
            (Unlike, "a b : yyy"),
            (Twice, "a b : yn nn yn"),
        )
        for line in (0, 1, 23, 24, 25, 10 ** 80 - 1):
            for error, text in faults:
                self.refused(error, line, read_line, text, line)

    def test_no_line(self):
        for text in (
            "", " ", ":", " :", " a :", "a  :", "a  b :", "a :  y", "a : y ", "a : ", "a :  ", "  a : y", "a : y  n",
            "a", "a b", "a y", "a b yn", "a:", "a :y", "a: y", "a b: yn", ": y", " : y", "a : : y", "a :: y", "a : y :",
            "a : y: n", ": a : y", "a :\n", "\na :", "a :\nb :", "a\n:", "a :\ny", "a : y\n", "a : y\nn", "a\n :",
            "A :", "a1 :", "a_b :", "a-b : y", "a, b : yn", "a` :", "a{ :", "a : Y", "a : x", "a : yx", "a : 1",
            "a : ab", "a; y", "a ; y", "a b ; yn", "aB :", "a : y,n", "~ :", "a : n!",
        ):
            self.refused(NoLine, 3, read_line, text, 3)

    def test_too_many_names(self):
        self.refused(TooMany, 0, read_line, "a b c d e :")
        self.refused(TooMany, 0, read_line, "a b c d e : yyyyy")
        self.refused(TooMany, 0, read_line, " ".join("abcdefghijklmnopq") + " :")

    def test_unlike_rows(self):
        for text in ("a : yy", "a b : y", "a b : yn y", "a b : nyn yn", "a b c d : yyyyy", "a b c d : yyy"):
            self.refused(Unlike, 0, read_line, text)

    def test_twice(self):
        for text in ("a a :", "a b c a :", "b aa aa : yyy", "a : y y", "a : n y n", "a b c d : yyyy nyny yyyy"):
            self.refused(Twice, 0, read_line, text)
        self.alike(read_line("a aa : yy"), (("a", "aa"), (3,)))

    def test_the_fault_told_first_is_due(self):
        for error, text in (
            (NoLine, "a a b c d : y y "),
            (NoLine, "a b c d e : yx"),
            (NoLine, "a a : yx"),
            (NoLine, "a : yy x"),
            (NoLine, "a : y y :"),
            (TooMany, "a a a a a : y y"),
            (TooMany, "a b c d e : y"),
            (TooMany, "a b c d e : yyyyy yyyyy"),
            (Twice, "a a : y"),
            (Twice, "a b c a : y y"),
            (Unlike, "a b : y y"),
            (Unlike, "a b : yn yn y"),
            (Unlike, "a : nn y y"),
        ):
            self.refused(error, 11, read_line, text, 11)

    def test_against_a_reading_by_pattern(self):
        pool = ("a", "b", ":", "y", "n", "yn", "", "a:", "Y")
        for many in range(6):
            for words in itertools.product(pool, repeat=many):
                text = " ".join(words)
                due = due_error(text)
                if due is None:
                    names, rows = read_line(text)
                    self.assertEqual(list(names), text.split(" :")[0].split(" "))
                    self.assertEqual(len(rows), len(text.split(" :")[1].split(" ")) - 1)
                else:
                    self.refused(due, 2, read_line, text, 2)


def due_error(text):
    """Which refusal a line of at most four names meets, or None."""
    if re.fullmatch(r"[a-z]{1,12}( [a-z]{1,12})* :( [yn]+)*", text) is None:
        return NoLine
    names, rows = [re.findall(r"[a-z]+", part) for part in text.split(":")]
    if len(set(names)) != len(names):
        return Twice
    if {len(row) for row in rows} - {len(names)}:
        return Unlike
    return Twice if len(set(rows)) != len(rows) else None


class ReadNet(Case):
    def test_empty_text(self):
        self.alike(read_net(""), ((), (0, ())))

    def test_ordinary(self):
        self.alike(read_net("a b : yn ny"), (("a", "b"), (2, (((0, 1), 0b0110),))))
        self.alike(read_net("a :"), (("a",), (1, (((0,), 0),))))

    def test_names_are_numbered_in_their_order(self):
        due = (("a", "ab", "b", "c"), (4, (((3, 1), 0b0010), ((2,), 0b01), ((0, 3), 0b1100))))
        self.alike(read_net("c ab : yn\nb : n\na c : yy ny"), due)

    def test_scopes_keep_the_order_of_the_line(self):
        names, net = read_net("d a c b : ynnn\na b c d : ynnn")
        self.alike(names, ("a", "b", "c", "d"))
        self.alike(net, (4, (((3, 0, 2, 1), 2), ((0, 1, 2, 3), 2))))

    def test_tables(self):
        rows = ["".join(row) for row in itertools.product("yn", repeat=4)]
        text = "a b c d : " + " ".join(rows)
        self.alike(read_net(text)[1], (4, (((0, 1, 2, 3), (1 << 16) - 1),)))
        self.alike(read_net("a b c d : yyyy")[1], (4, (((0, 1, 2, 3), 1 << 15),)))

    def test_lines_may_be_alike(self):
        self.alike(read_net("a : y\na : y"), (("a",), (1, (((0,), 2), ((0,), 2)))))

    def test_24_lines_and_the_25th(self):
        self.alike(read_net("\n".join(["a : y"] * 24)), (("a",), (1, (((0,), 2),) * 24)))
        for many in (25, 26, 100):
            self.refused(TooMany, 24, read_net, "\n".join(["a : y"] * many))

    def test_12_names_and_a_13th(self):
        names, net = read_net(TWELVE_NAMES)
        self.alike(names, tuple("abcdefghijkl"))
        self.alike(net, (12, (((0, 1, 2, 3), 0), ((4, 5, 6, 7), 1 << 15), ((11, 10, 9, 8), 0))))
        self.assertEqual(read_net(TWELVE_NAMES + "\na f k l : yyyy")[1][0], 12)
        self.refused(TooMany, 3, read_net, TWELVE_NAMES + "\nm :")
        self.refused(TooMany, 3, read_net, TWELVE_NAMES + "\nm n :")
        self.refused(TooMany, 4, read_net, TWELVE_NAMES + "\na :\nb aa : yn")
        self.refused(TooMany, 3, read_net, "\n".join(["a b c d :", "e f g h :", "i j k :", "l m :"]))

    def test_the_first_line_at_fault(self):
        self.refused(Unlike, 1, read_net, "a : y\nb : yy\nc c :\nd")
        self.refused(Twice, 0, read_net, "c c :\nb : yy\nd")
        self.refused(Twice, 2, read_net, "a :\nb :\nc : y n y\n")
        self.refused(NoLine, 1, read_net, "a :\n\nb b :")
        self.refused(TooMany, 1, read_net, "a :\na b c d e :\n:")
        self.refused(TooMany, 3, read_net, TWELVE_NAMES + "\nm :\n:")
        self.refused(NoLine, 3, read_net, TWELVE_NAMES + "\n:\nm :")

    def test_a_lines_own_faults_go_first(self):
        full = "\n".join(["a : y"] * 24) + "\n"
        for error, last in (
            (NoLine, "a"), (TooMany, "a b c d e :"), (Twice, "a a :"), (Unlike, "a : yy"), (Twice, "a : y y"),
        ):
            self.refused(error, 24, read_net, full + last)
        for error, last in ((NoLine, "m"), (Twice, "m m :"), (Unlike, "m : yy"), (Twice, "m : y y")):
            self.refused(error, 3, read_net, TWELVE_NAMES + "\n" + last)

    def test_odd_line_feeds(self):
        self.refused(NoLine, 1, read_net, "a : y\n")
        self.refused(NoLine, 0, read_net, "\na : y")
        self.refused(NoLine, 0, read_net, "\n")
        self.refused(NoLine, 1, read_net, "a : y\n\nb : y")
        self.refused(NoLine, 24, read_net, "\n".join(["a : y"] * 24) + "\n")
        self.refused(NoLine, 0, read_net, " ")

    def test_a_long_text(self):
        self.refused(NoLine, 0, read_net, "a " * 3000)
        self.refused(TooMany, 0, read_net, "a " * 2999 + ":")


class Shown(Case):
    def test_rows(self):
        self.assertEqual([shown_row(1, row) for row in range(2)], ["n", "y"])
        self.assertEqual([shown_row(2, row) for row in range(4)], ["nn", "yn", "ny", "yy"])
        for width in (3, 4):
            due = ["".join(reversed(row)) for row in itertools.product("ny", repeat=width)]
            self.assertEqual([shown_row(width, row) for row in range(1 << width)], due)

    def test_no_ties(self):
        self.assertEqual(shown_net((), (0, ())), "")
        self.assertEqual(shown_net(("a", "b"), (2, ())), "")

    def test_rows_rise(self):
        self.assertEqual(shown_net(("a", "b"), (2, (((0, 1), 0b1111),))), "a b : nn yn ny yy")
        self.assertEqual(shown_net(*read_net("b a : yy ny nn yn")), "b a : nn yn ny yy")

    def test_table_with_no_row(self):
        self.assertEqual(shown_net(("a",), (1, (((0,), 0),))), "a :")

    def test_lines_alike(self):
        self.assertEqual(shown_net(("a",), (1, (((0,), 2), ((0,), 2)))), "a : y\na : y")

    def test_unknowns_in_no_tie(self):
        net = (4, (((3, 1), 0b0110), ((1,), 0b01)))
        self.assertEqual(shown_net(("a", "bb", "c", "d"), net), "d bb : yn ny\nbb : n")

    def test_read_shown_and_read_again(self):
        for text in (
            "", "a :", "a : y n", "b a : yn nn\na b : ny", "c b a d : nnnn yyyy\nd :\nd :", TWELVE_NAMES,
            "\n".join(["abcdefghijkl z : yy nn"] * 24),
        ):
            read = read_net(text)
            self.alike(read_net(shown_net(*read)), read)

    def test_every_table_comes_back(self):
        for width in range(1, 4):
            names = tuple("abc"[:width])
            for table in range(1 << (1 << width)):
                net = (width, ((tuple(reversed(range(width))), table),))
                self.alike(read_net(shown_net(names, net)), (names, net))


if __name__ == "__main__":
    unittest.main()
