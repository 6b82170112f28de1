"""The six mixes, and the breaches of tables."""

import itertools
import unittest

from mixkeep.mixes import TAKES, breach, mixed, places, takes
from slowly import MANY, MIXES, slowly_kept, slowly_mixed


class Case(unittest.TestCase):
    def check_breach(self, mix, width, table):
        told = breach(mix, width, table)
        if told is None:
            self.assertTrue(slowly_kept(mix, width, table), (mix, width, table))
            return
        self.assertIs(type(told), tuple)
        self.assertEqual(len(told), MANY[mix], (mix, width, table))
        for row in told:
            self.assertIs(type(row), int)
            self.assertTrue(0 <= row < 1 << width and table & (1 << row), (mix, width, table, told))
        self.assertFalse(table & (1 << slowly_mixed(mix, width, told)), (mix, width, table, told))


class Places(unittest.TestCase):
    def test_small(self):
        for mask in range(1 << 10):
            told = places(mask)
            self.assertIs(type(told), list)
            self.assertEqual(told, sorted(set(told)))
            self.assertEqual(sum(1 << place for place in told), mask)

    def test_edges(self):
        self.assertEqual(places(0), [])
        self.assertEqual(places(1), [0])
        self.assertEqual(places(0b1010), [1, 3])
        self.assertEqual(places(1 << 15), [15])
        self.assertEqual(places((1 << 16) - 1), list(range(16)))

    def test_whole_numbers(self):
        for place in places((1 << 16) - 1):
            self.assertIs(type(place), int)

    def test_a_new_list_each_time(self):
        for mask in (0, 0b101, (1 << 16) - 1):
            first = places(mask)
            second = places(mask)
            self.assertIsNot(first, second)
            first.append(99)
            self.assertNotIn(99, second)
            self.assertEqual(places(mask), second)


class Takes(unittest.TestCase):
    def test_each(self):
        for mix in MIXES:
            self.assertEqual(takes(mix), MANY[mix])
            self.assertIs(type(takes(mix)), int)

    def test_order(self):
        self.assertEqual(tuple(TAKES), MIXES)


class Mixed(unittest.TestCase):
    def test_one_by_one(self):
        self.assertEqual(mixed("no", 4, (0b0110,)), 0)
        self.assertEqual(mixed("yes", 4, (0b0110,)), 0b1111)
        self.assertEqual(mixed("least", 4, (0b0011, 0b0101)), 0b0001)
        self.assertEqual(mixed("most", 4, (0b0011, 0b0101)), 0b0111)
        self.assertEqual(mixed("middle", 8, (0b00001111, 0b00110011, 0b01010101)), 0b00010111)
        self.assertEqual(mixed("odd", 8, (0b00001111, 0b00110011, 0b01010101)), 0b01101001)

    def test_all_rows_of_small_widths(self):
        for mix in MIXES:
            for width in (1, 2, 3):
                for rows in itertools.product(range(1 << width), repeat=MANY[mix]):
                    self.check(mix, width, rows)

    def test_bounds_of_the_width(self):
        whole = (1 << 16) - 1
        for mix in MIXES:
            for width in (1, 16):
                for rows in itertools.product((0, 1, whole >> (16 - width)), repeat=MANY[mix]):
                    self.check(mix, width, rows)
            for rows in itertools.product((0x8000, 0x5A5A, 0xF00F, 0x3333), repeat=MANY[mix]):
                self.check(mix, 16, rows)

    def check(self, mix, width, rows):
        due = slowly_mixed(mix, width, rows)
        handed = list(rows)
        for told in (mixed(mix, width, rows), mixed(mix, width, handed)):
            self.assertEqual(told, due, (mix, width, rows))
            self.assertIs(type(told), int)
        self.assertEqual(handed, list(rows))


class Breach(Case):
    def test_empty_table(self):
        for mix in MIXES:
            for width in range(1, 5):
                self.assertIsNone(breach(mix, width, 0))

    def test_full_table(self):
        for mix in MIXES:
            for width in range(1, 5):
                self.assertIsNone(breach(mix, width, (1 << (1 << width)) - 1))

    def test_one_row(self):
        self.assertEqual(breach("no", 1, 0b10), (1,))
        self.assertEqual(breach("yes", 1, 0b01), (0,))
        for mix in ("least", "most", "middle", "odd"):
            for row in range(16):
                self.assertIsNone(breach(mix, 4, 1 << row))

    def test_one_of_two(self):
        for mix in ("no", "yes", "least", "most"):
            self.assertIsNotNone(breach(mix, 2, 0b0110))
        for mix in ("middle", "odd"):
            self.assertIsNone(breach(mix, 2, 0b0110))

    def test_every_table_of_widths_1_to_3(self):
        for mix in MIXES:
            for width in (1, 2, 3):
                for table in range(1 << (1 << width)):
                    self.check_breach(mix, width, table)

    def test_every_table_of_width_4(self):
        for mix in MIXES:
            for table in range(1 << 16):
                self.check_breach(mix, 4, table)


if __name__ == "__main__":
    unittest.main()
