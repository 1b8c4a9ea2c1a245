import importlib
import inspect
import itertools
import unittest

from bracketnumbers.moves import moves, path
from bracketnumbers.numbers import count, row_of
from bracketnumbers.partings import cut_of, parting_of, row_by_cut, row_by_parting
from bracketnumbers.trees import forest_of, row_by_forest, row_by_tree, tree_of
from samples import all_whole_rows, middling_rows

OVER_AND_BACK = (
    (forest_of, row_by_forest), (tree_of, row_by_tree), (parting_of, row_by_parting), (cut_of, row_by_cut),
)
INTERFACE = {
    "rows": {
        "is_whole": ["thing"], "depth": ["row"], "partner": ["row", "place"], "backward": ["row"], "turn_of": ["row"],
    },
    "numbers": {
        "count": ["size", "bound"], "number": ["row"], "row_of": ["size", "number"], "next_row": ["row"],
    },
    "trees": {
        "forest_of": ["row"], "row_by_forest": ["forest"], "tree_of": ["row"], "row_by_tree": ["tree"],
        "mirrored": ["tree"],
    },
    "partings": {
        "parting_of": ["row"], "row_by_parting": ["parting"], "cut_of": ["row"], "row_by_cut": ["cut"],
    },
    "moves": {"moves": ["row"], "path": ["row", "other"]},
}


def small_rows(size):
    return [row_of(size, told) for told in range(count(size, size))]


def reached_from(row):
    """All rows that one comes to by moves."""
    reached, waiting = {row}, [row]
    while waiting:
        fresh = set(moves(waiting.pop())) - reached
        reached |= fresh
        waiting += fresh
    return reached


class TheWhole(unittest.TestCase):
    def test_rows_of_all_numbers_are_all_whole_rows_in_order(self):
        for size in range(6):
            self.assertEqual(small_rows(size), sorted(all_whole_rows(size)))

    def test_what_rows_go_over_into_is_all_unlike(self):
        for size in range(6):
            rows = small_rows(size)
            for over, back in OVER_AND_BACK:
                self.assertEqual(len({over(row) for row in rows}), count(size, size), over)

    def test_each_tells_the_others(self):
        for row in middling_rows():
            for (over, back), (onward, home) in itertools.product(OVER_AND_BACK, OVER_AND_BACK):
                self.assertEqual(home(onward(back(over(row)))), row)

    def test_one_comes_from_each_row_to_each_other_one(self):
        for size in range(6):
            rows = small_rows(size)
            self.assertEqual(sorted(reached_from(rows[0])), rows)
            for row, other in itertools.product(rows, rows):
                walked = path(row, other)
                self.assertEqual((walked[0], walked[-1]), (row, other))
                self.assertTrue(all(after in moves(one) for one, after in zip(walked, walked[1:])))

    def test_names_and_arguments_of_the_interface(self):
        for module, functions in INTERFACE.items():
            held = importlib.import_module(f"bracketnumbers.{module}")
            for name, arguments in functions.items():
                self.assertEqual(list(inspect.signature(getattr(held, name)).parameters), arguments, name)
