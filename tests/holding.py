"""What several tests hold answers and refusals against."""

import unittest

from bracketnumbers.errors import BracketError, NoPlace, NoRow


class Refusals(unittest.TestCase):
    def assert_no_row(self, called, *given):
        for taken in (NoRow, BracketError, ValueError):
            with self.assertRaises(taken) as held:
                called(*given)
            self.assertIsInstance(held.exception, NoRow)
            self.assertNotIsInstance(held.exception, NoPlace)


def holds_told_kinds_alone(thing):
    """Tuples, texts, whole numbers and None, and nothing that is merely like one of them."""
    if type(thing) is tuple:
        return all(holds_told_kinds_alone(part) for part in thing)
    return thing is None or type(thing) in (str, int)
