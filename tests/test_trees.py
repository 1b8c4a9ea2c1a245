import ast
import random
import unittest

from bracketnumbers.trees import forest_of, mirrored, row_by_forest, row_by_tree, tree_of
from holding import holds_told_kinds_alone
from samples import all_whole_rows, middling_rows, sample_rows, shrinks_to_nothing

ROWS = middling_rows()
LONG_ROWS = sample_rows()


def written_forest(row):
    """With a comma behind each bracket that shuts, a row within a pair of brackets is its forest, written out."""
    return ast.literal_eval("(" + row.replace(")", "),") + ")")


def tree_by_trying(row):
    if row == "":
        return None
    end = next(end for end in range(2, len(row) + 1) if shrinks_to_nothing(row[:end]))
    return (tree_by_trying(row[1:end - 1]), tree_by_trying(row[end:]))


def two_rows():
    """Pairs of whole rows of at most 19 pairs together, so that one more pair may go round the first."""
    source = random.Random(31)
    pairs = [("", ""), ("(" * 19 + ")" * 19, ""), ("", "()" * 19), ("()" * 19, ""), ("", "(" * 19 + ")" * 19)]
    while len(pairs) < 300:
        one, other = source.choice(ROWS), source.choice(ROWS)
        if len(one) + len(other) <= 38:
            pairs.append((one, other))
    return pairs


class Forests(unittest.TestCase):
    def test_of_the_empty_row_is_empty(self):
        self.assertEqual(forest_of(""), ())
        self.assertEqual(row_by_forest(()), "")

    def test_plainly(self):
        self.assertEqual(forest_of("()"), ((),))
        self.assertEqual(forest_of("()()"), ((), ()))
        self.assertEqual(forest_of("(())"), (((),),))
        self.assertEqual(forest_of("(()())()(())"), (((), ()), (), ((),)))
        self.assertEqual(row_by_forest((((), ()), (), ((),))), "(()())()(())")

    def test_of_rows_is_as_written(self):
        for row in LONG_ROWS + ROWS:
            self.assertEqual(forest_of(row), written_forest(row), row)

    def test_of_a_row_within_a_pair_with_another_behind(self):
        for one, other in two_rows():
            self.assertEqual(forest_of("(" + one + ")" + other), (forest_of(one),) + forest_of(other))

    def test_tells_the_row(self):
        for row in LONG_ROWS + ROWS:
            self.assertEqual(row_by_forest(written_forest(row)), row)
            self.assertEqual(row_by_forest(forest_of(row)), row)

    def test_of_every_small_row(self):
        for size in range(8):
            for row in all_whole_rows(size):
                self.assertEqual(forest_of(row), written_forest(row))
                self.assertEqual(row_by_forest(written_forest(row)), row)

    def test_tuples_alone_and_the_same_again(self):
        for row in ROWS:
            told = forest_of(row)
            self.assertTrue(holds_told_kinds_alone(told), row)
            self.assertEqual(forest_of(row), told)
            self.assertIs(type(row_by_forest(told)), str)
            self.assertEqual(row_by_forest(told), row_by_forest(told))
            self.assertEqual(told, written_forest(row))


class Trees(unittest.TestCase):
    def test_of_the_empty_row_is_none(self):
        self.assertIsNone(tree_of(""))
        self.assertEqual(row_by_tree(None), "")

    def test_plainly(self):
        self.assertEqual(tree_of("()"), (None, None))
        self.assertEqual(tree_of("()()"), (None, (None, None)))
        self.assertEqual(tree_of("(())"), ((None, None), None))
        self.assertEqual(tree_of("(()())()"), ((None, (None, None)), (None, None)))
        self.assertEqual(row_by_tree(((None, (None, None)), (None, None))), "(()())()")

    def test_twenty_deep_and_twenty_side_by_side(self):
        deep, wide = None, None
        for turn in range(20):
            deep, wide = (deep, None), (None, wide)
        self.assertEqual(tree_of("(" * 20 + ")" * 20), deep)
        self.assertEqual(tree_of("()" * 20), wide)
        self.assertEqual(row_by_tree(deep), "(" * 20 + ")" * 20)
        self.assertEqual(row_by_tree(wide), "()" * 20)
        self.assertEqual(mirrored(deep), wide)
        self.assertEqual(mirrored(wide), deep)

    def test_of_rows_as_found_by_trying(self):
        for row in LONG_ROWS + ROWS:
            tree = tree_by_trying(row)
            self.assertEqual(tree_of(row), tree, row)
            self.assertEqual(row_by_tree(tree), row)

    def test_of_a_row_within_a_pair_with_another_behind(self):
        for one, other in two_rows():
            self.assertEqual(tree_of("(" + one + ")" + other), (tree_of(one), tree_of(other)))

    def test_of_every_small_row(self):
        for size in range(8):
            for row in all_whole_rows(size):
                self.assertEqual(tree_of(row), tree_by_trying(row))
                self.assertEqual(row_by_tree(tree_by_trying(row)), row)

    def test_told_kinds_alone_and_the_same_again(self):
        for row in ROWS:
            told = tree_of(row)
            self.assertTrue(holds_told_kinds_alone(told), row)
            self.assertEqual(tree_of(row), told)
            self.assertIs(type(row_by_tree(told)), str)
            self.assertEqual(row_by_tree(told), row_by_tree(told))
            self.assertEqual(told, tree_by_trying(row))


class Mirrored(unittest.TestCase):
    def test_of_none_is_none(self):
        self.assertIsNone(mirrored(None))

    def test_plainly(self):
        self.assertEqual(mirrored((None, None)), (None, None))
        self.assertEqual(mirrored(((None, None), None)), (None, (None, None)))
        self.assertEqual(mirrored(((None, (None, None)), (None, None))), ((None, None), ((None, None), None)))

    def test_of_a_pair_is_the_second_mirrored_and_the_first_mirrored(self):
        for one, other in two_rows():
            first, second = tree_by_trying(one), tree_by_trying(other)
            self.assertEqual(mirrored((first, second)), (mirrored(second), mirrored(first)))

    def test_twice_is_the_tree_itself(self):
        for row in LONG_ROWS + ROWS:
            tree = tree_by_trying(row)
            told = mirrored(tree)
            self.assertTrue(holds_told_kinds_alone(told))
            self.assertEqual(mirrored(told), tree)
            self.assertEqual(mirrored(tree), told)
            self.assertEqual(tree, tree_by_trying(row))
            self.assertEqual(len(row_by_tree(told)), len(row))
