"""The refusals: what stands under what, and the field `line`."""

import unittest

from mixkeep import errors
from mixkeep.errors import LineError, MixError, NoAsk, NoLine, NoName, NoTie, TooMany, Twice, Unlike

OF_A_LINE = (LineError, NoLine, TooMany, Twice, Unlike)
OF_THE_DESK = (NoAsk, NoName, NoTie)


class WhatStandsUnderWhat(unittest.TestCase):
    def test_base(self):
        self.assertEqual(MixError.__bases__, (ValueError,))
        self.assertEqual(LineError.__bases__, (MixError,))

    def test_refusals_of_a_line(self):
        for error in OF_A_LINE[1:]:
            self.assertEqual(error.__bases__, (LineError,), error)

    def test_refusals_of_the_desk(self):
        for error in OF_THE_DESK:
            self.assertEqual(error.__bases__, (MixError,), error)

    def test_names(self):
        for error in (MixError,) + OF_A_LINE + OF_THE_DESK:
            self.assertIs(getattr(errors, error.__name__), error)

    def test_no_refusal_is_taken_as_another(self):
        for error in OF_A_LINE[1:] + OF_THE_DESK:
            for other in OF_A_LINE[1:] + OF_THE_DESK:
                self.assertEqual(issubclass(error, other), error is other)


class TheFieldLine(unittest.TestCase):
    def test_each_bears_its_line(self):
        for error in OF_A_LINE:
            for line in (0, 1, 24, 10 ** 80 - 1):
                made = error(line)
                self.assertEqual(made.line, line)
                self.assertIs(type(made.line), int)

    def test_objects_keep_their_own(self):
        first = NoLine(1)
        second = NoLine(2)
        self.assertEqual((first.line, second.line), (1, 2))

    def test_raised(self):
        for error in OF_A_LINE:
            with self.assertRaises(MixError) as caught:
                raise error(7)
            self.assertEqual(caught.exception.line, 7)

    def test_those_of_the_desk_are_raised(self):
        for error in OF_THE_DESK:
            with self.assertRaises(MixError) as caught:
                raise error()
            self.assertNotIsInstance(caught.exception, LineError)


if __name__ == "__main__":
    unittest.main()
