import itertools
import random
import unittest

from bracketnumbers.moves import moves, path
from holding import Refusals, holds_told_kinds_alone
from samples import all_whole_rows, long_texts, middling_rows, sample_rows, shrinks_to_nothing, spoilt, unwhole_texts

ROWS = middling_rows()
LONG_ROWS = sample_rows()
SMALL = [all_whole_rows(size) for size in range(7)]


def moves_by_trying(row):
    found = set()
    for place in range(len(row) - 1):
        if row[place:place + 2] in ("()", ")("):
            text = row[:place] + row[place:place + 2][::-1] + row[place + 2:]
            if shrinks_to_nothing(text):
                found.add(text)
    return tuple(sorted(found))


def differs_by_one_move(one, other):
    """Whether two whole rows are unlike in two places side by side and nowhere else."""
    places = [place for place in range(len(one)) if one[place] != other[place]]
    return len(one) == len(other) and len(places) == 2 and places[1] - places[0] == 1


def pairs_of_one_size():
    source = random.Random(51)
    pairs = []
    for size in range(21):
        rows = [row for row in ROWS if len(row) == 2 * size]
        pairs += [(source.choice(rows), source.choice(rows)) for turn in range(12)]
        deepest, flattest = "(" * size + ")" * size, "()" * size
        pairs += [(deepest, flattest), (flattest, deepest)]
    return pairs


class Moves(unittest.TestCase):
    def test_plainly(self):
        self.assertEqual(moves(""), ())
        self.assertEqual(moves("()"), ())
        self.assertEqual(moves("(())"), ("()()",))
        self.assertEqual(moves("()()"), ("(())",))
        self.assertEqual(moves("(())()"), ("(()())", "()()()"))
        self.assertEqual(moves("(()())"), ("((()))", "(())()", "()(())"))

    def test_of_rows_as_found_by_trying_every_place(self):
        for row in LONG_ROWS + ROWS + [row for rows in SMALL for row in rows]:
            self.assertEqual(moves(row), moves_by_trying(row), row)

    def test_rise_without_doubles_and_leave_the_row_out(self):
        for row in ROWS:
            told = moves(row)
            self.assertTrue(all(one < other for one, other in zip(told, told[1:])), row)
            self.assertNotIn(row, told)

    def test_each_row_is_one_of_the_moves_of_each_of_its_moves(self):
        for row in ROWS:
            for other in moves(row):
                self.assertIn(row, moves(other))

    def test_told_kinds_alone_and_the_same_again(self):
        for row in ROWS:
            told = moves(row)
            self.assertIs(type(told), tuple)
            self.assertTrue(holds_told_kinds_alone(told))
            self.assertEqual(moves(row), told)


class Path(Refusals):
    def assert_leads(self, row, other):
        told = path(row, other)
        self.assertIs(type(told), tuple)
        self.assertTrue(holds_told_kinds_alone(told))
        self.assertEqual((told[0], told[-1]), (row, other))
        for passed in told:
            self.assertTrue(shrinks_to_nothing(passed), passed)
        for one, following in zip(told, told[1:]):
            self.assertTrue(differs_by_one_move(one, following), (one, following))
        return told

    def test_from_each_small_row_to_each_other(self):
        for rows in SMALL[:6]:
            for row, other in itertools.product(rows, rows):
                self.assert_leads(row, other)

    def test_from_row_to_row_of_one_size(self):
        for row, other in pairs_of_one_size():
            told = self.assert_leads(row, other)
            for one, following in zip(told, told[1:]):
                self.assertIn(following, moves(one))
            self.assertEqual(path(row, other), told)

    def test_from_a_row_to_itself(self):
        for row in ROWS:
            self.assert_leads(row, row)
        self.assertEqual(self.assert_leads("", "")[0], "")

    def test_beyond_the_bound_nothing_is_refused(self):
        for size in (21, 22, 30, 60):
            self.assert_leads("(" * size + ")" * size, "()" * size)
            self.assert_leads("()" * size, "(" * size + ")" * size)

    def test_sizes_unlike(self):
        for row, other in itertools.product(ROWS[::5], ROWS[::5]):
            if len(row) != len(other):
                self.assert_no_row(path, row, other)
        self.assert_no_row(path, "", "()")
        self.assert_no_row(path, "()", "")

    def test_texts_that_are_not_whole_rows(self):
        for text in unwhole_texts() + long_texts():
            self.assert_no_row(path, text, text)
            for row in ("", "()", "()()", "(()())", "()" * (len(text) // 2)):
                self.assert_no_row(path, text, row)
                self.assert_no_row(path, row, text)

    def test_rows_with_one_sign_spoilt(self):
        for row in ROWS[::9]:
            for text in spoilt(row):
                self.assert_no_row(path, text, row)
                self.assert_no_row(path, row, text)

    def test_as_many_of_both_in_an_order_that_is_not_whole(self):
        for size in range(1, 6):
            turned = [row[::-1] for row in SMALL[size]] + [row[1:] + row[0] for row in SMALL[size]]
            for text in turned:
                for row in SMALL[size][:3]:
                    self.assert_no_row(path, text, row)
                    self.assert_no_row(path, row, text)
