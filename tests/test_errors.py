import unittest

from bracketnumbers import errors, moves, numbers, partings, rows


class Errors(unittest.TestCase):
    def test_bracket_error_is_a_value_error(self):
        self.assertTrue(issubclass(errors.BracketError, ValueError))

    def test_both_refusals_stand_below_it(self):
        self.assertTrue(issubclass(errors.NoPlace, errors.BracketError))
        self.assertTrue(issubclass(errors.NoRow, errors.BracketError))

    def test_neither_stands_below_the_other(self):
        self.assertFalse(issubclass(errors.NoPlace, errors.NoRow))
        self.assertFalse(issubclass(errors.NoRow, errors.NoPlace))

    def test_the_modules_that_refuse_have_their_error(self):
        self.assertIs(rows.NoPlace, errors.NoPlace)
        for module in (numbers, partings, moves):
            self.assertIs(module.NoRow, errors.NoRow)
