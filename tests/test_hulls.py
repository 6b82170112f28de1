"""Hulls of tables, and the steps that lead there."""

import itertools
import unittest

from mixkeep.hulls import hull, hull_steps
from slowly import MANY, MIXES, rows_of, slowly_kept, slowly_mixed


class Case(unittest.TestCase):
    def check(self, mix, width, table):
        """Checks all that is told of one hull; gives the hull back."""
        place = (mix, width, table)
        steps = hull_steps(mix, width, table)
        self.assertIs(type(steps), tuple, place)
        there = rows_of(width, table)
        for step in steps:
            self.check_step(mix, width, there, step)
            there.append(step[0])
        told = hull(mix, width, table)
        self.assertIs(type(told), int, place)
        self.assertEqual(sorted(there), rows_of(width, told), place)
        self.assertEqual(told >> (1 << width), 0, place)
        self.assertEqual(told & table, table, place)
        self.assertTrue(slowly_kept(mix, width, told), place)
        return told

    def check_step(self, mix, width, there, step):
        self.assertIs(type(step), tuple)
        row, parts = step
        self.assertIs(type(row), int)
        self.assertIs(type(parts), tuple)
        self.assertEqual(len(parts), MANY[mix])
        for part in parts:
            self.assertIs(type(part), int)
            self.assertIn(part, there, (mix, width, step))
        self.assertEqual(row, slowly_mixed(mix, width, parts))
        self.assertNotIn(row, there, (mix, width, step))


class Known(Case):
    def test_no_row(self):
        for mix in MIXES:
            for width in range(1, 5):
                self.assertEqual(self.check(mix, width, 0), 0)
                self.assertEqual(hull_steps(mix, width, 0), ())

    def test_all_rows(self):
        for mix in MIXES:
            for width in range(1, 5):
                whole = (1 << (1 << width)) - 1
                self.assertEqual(self.check(mix, width, whole), whole)
                self.assertEqual(hull_steps(mix, width, whole), ())

    def test_one_row(self):
        for width in range(1, 5):
            for row in range(1 << width):
                self.assertEqual(self.check("no", width, 1 << row), (1 << row) | 1)
                self.assertEqual(self.check("yes", width, 1 << row), (1 << row) | (1 << ((1 << width) - 1)))
                for mix in ("least", "most", "middle", "odd"):
                    self.assertEqual(self.check(mix, width, 1 << row), 1 << row)
                    self.assertEqual(hull_steps(mix, width, 1 << row), ())

    def test_the_only_steps(self):
        self.assertEqual(hull_steps("no", 1, 0b10), ((0, (1,)),))
        self.assertEqual(hull_steps("yes", 1, 0b01), ((1, (0,)),))
        self.assertIn(hull_steps("least", 2, 0b0110), (((0, (1, 2)),), ((0, (2, 1)),)))
        self.assertIn(hull_steps("most", 2, 0b0110), (((3, (1, 2)),), ((3, (2, 1)),)))

    def test_several_rows(self):
        self.assertEqual(self.check("least", 3, 0b01101000), 0b01111111)
        self.assertEqual(self.check("most", 3, 0b00010110), 0b11111110)
        self.assertEqual(self.check("middle", 3, 0b01101000), 0b11101000)
        self.assertEqual(self.check("odd", 3, 0b01101000), 0b01101001)
        self.assertEqual(self.check("odd", 3, 0b00010111), 0b11111111)
        self.assertEqual(self.check("middle", 2, 0b0111), 0b0111)

    def test_many_steps(self):
        ones = sum(1 << (1 << place) for place in range(4))
        lacking = sum(1 << (15 - (1 << place)) for place in range(4))
        self.assertEqual(self.check("most", 4, ones), 0xFFFE)
        self.assertEqual(len(hull_steps("most", 4, ones)), 11)
        self.assertEqual(self.check("least", 4, lacking), 0x7FFF)
        self.assertEqual(len(hull_steps("least", 4, lacking)), 11)
        self.assertEqual(self.check("odd", 4, ones | 1), 0xFFFF)
        self.assertEqual(len(hull_steps("odd", 4, ones | 1)), 11)

    def test_asked_again(self):
        for mix in MIXES:
            first = hull_steps(mix, 4, 0b0001_0110_1000_0010)
            hull(mix, 4, 0xF00F)
            self.assertEqual(hull(mix, 4, 0b0001_0110_1000_0010), self.check(mix, 4, 0b0001_0110_1000_0010))
            self.assertEqual(len(hull_steps(mix, 4, 0b0001_0110_1000_0010)), len(first))


class Many(Case):
    def test_every_table_of_widths_1_to_3_lies_in_each_kept_one(self):
        for mix in MIXES:
            for width in (1, 2, 3):
                whole = (1 << (1 << width)) - 1
                kept = [table for table in range(whole + 1) if slowly_kept(mix, width, table)]
                for table in range(whole + 1):
                    least = whole
                    for other in kept:
                        if other & table == table:
                            least &= other
                    self.assertEqual(self.check(mix, width, table), least, (mix, width, table))

    def test_every_table_of_width_4_by_no_and_yes(self):
        for table in range(1, 1 << 16):
            self.assertEqual(hull("no", 4, table), table | 1)
            self.assertEqual(hull("yes", 4, table), table | 0x8000)

    def test_tables_of_width_4(self):
        for mix in MIXES:
            for table in range(5, 1 << 16, 61):
                self.check(mix, 4, table)

    def test_two_and_three_rows_of_width_4(self):
        for mix in MIXES:
            for many in (2, 3):
                for rows in itertools.combinations(range(16), many):
                    self.check(mix, 4, sum(1 << row for row in rows))

    def test_all_rows_but_one_or_two(self):
        for mix in MIXES:
            for rows in itertools.combinations_with_replacement(range(16), 2):
                self.check(mix, 4, 0xFFFF & ~(1 << rows[0]) & ~(1 << rows[1]))


if __name__ == "__main__":
    unittest.main()
