import copy
import itertools
import unittest

from bracketnumbers.partings import cut_of, parting_of, row_by_cut, row_by_parting
from bracketnumbers.trees import mirrored, row_by_tree, tree_of
from holding import Refusals, holds_told_kinds_alone
from samples import (
    MIDDLING, all_whole_rows, doubled_things, long_texts, middling_rows, other_things, sample_rows, unwhole_texts,
)

ROWS = middling_rows()
LONG_ROWS = sample_rows()
SMALL = [all_whole_rows(size) for size in range(7)]


def parting_by_walking(row):
    """As the document tells it, sign by sign."""
    opened, in_blocks, blocks, stretch = 0, set(), [], 0
    for sign in row + "(":
        if sign == ")":
            stretch += 1
            continue
        if stretch:
            waiting = [point for point in range(opened) if point not in in_blocks]
            blocks.append(tuple(waiting[-stretch:]))
            in_blocks.update(blocks[-1])
            stretch = 0
        opened += 1
    return tuple(sorted(blocks))


def rises(things):
    return all(one < other for one, other in zip(things, things[1:]))


def crosses(parting):
    """Whether some a, c of one block and b, d of another one rise as a, b, c, d."""
    for block, other in itertools.permutations(parting, 2):
        for first, third in itertools.combinations(block, 2):
            if any(first < second < third for second in other) and any(third < fourth for fourth in other):
                return True
    return False


def is_parting_without_crossing(thing):
    if type(thing) is not tuple or any(type(block) is not tuple or not block for block in thing):
        return False
    points = [point for block in thing for point in block]
    if any(type(point) is not int for point in points) or sorted(points) != list(range(len(points))):
        return False
    return rises(thing) and all(rises(block) for block in thing) and not crosses(thing)


def all_partings(size):
    """All partings of points, also those that cross."""
    if size == 0:
        return [()]
    partings = []
    for lesser in all_partings(size - 1):
        partings.append(lesser + ((size - 1,),))
        for place, block in enumerate(lesser):
            partings.append(lesser[:place] + (block + (size - 1,),) + lesser[place + 1:])
    return partings


def spoilt_blocks(parting):
    """All that comes of a parting when one block is left out, doubled, emptied, put elsewhere, or joined to another."""
    for place, block in enumerate(parting):
        others = parting[:place] + parting[place + 1:]
        yield others
        for elsewhere in range(len(parting) + 1):
            yield parting[:elsewhere] + (block,) + parting[elsewhere:]
            yield parting[:elsewhere] + ((),) + parting[elsewhere:]
        for elsewhere in range(len(others) + 1):
            yield others[:elsewhere] + (block,) + others[elsewhere:]
        for elsewhere, other in enumerate(others):
            yield others[:elsewhere] + (other + block,) + others[elsewhere + 1:]
            yield tuple(sorted(others[:elsewhere] + (tuple(sorted(other + block)),) + others[elsewhere + 1:]))
    yield parting[::-1]
    yield tuple(block[::-1] for block in parting)


def spoilt_points(parting):
    """All that comes of a parting when one point is left out, doubled, moved to another block, or another number."""
    size = sum(len(block) for block in parting)
    for place, block in enumerate(parting):
        for within, point in enumerate(block):
            ahead, behind = block[:within], block[within + 1:]
            rest = ahead + behind
            changed = [rest, ahead + (point, point) + behind, rest[:1] + (point,) + rest[1:]]
            changed += [ahead + (other,) + behind for other in (point - 1, point + 1, -1, size, 10 ** 5000)]
            for one in changed:
                yield parting[:place] + (one,) + parting[place + 1:]
            for elsewhere, other in enumerate(parting):
                moved = list(parting)
                moved[place] = rest
                moved[elsewhere] = tuple(sorted(moved[elsewhere] + (point,)))
                yield tuple(moved)
                yield tuple(sorted(one for one in moved if one))


def things_of_all_kinds():
    return other_things() + ["", "()", "(", "0", "(())"] + unwhole_texts() + long_texts()


class Partings(Refusals):
    def assert_told_or_refused(self, thing):
        if is_parting_without_crossing(thing):
            self.assertEqual(parting_by_walking(row_by_parting(thing)), thing)
        else:
            self.assert_no_row(row_by_parting, thing)

    def test_plainly(self):
        self.assertEqual(parting_of("()"), ((0,),))
        self.assertEqual(parting_of("(())()"), ((0, 1), (2,)))
        self.assertEqual(parting_of("(()())"), ((0, 2), (1,)))
        self.assertEqual(parting_of("(()(()))()"), ((0, 2, 3), (1,), (4,)))
        self.assertEqual(row_by_parting(((0, 2, 3), (1,), (4,))), "(()(()))()")

    def test_of_no_points(self):
        self.assertEqual(parting_of(""), ())
        self.assertEqual(row_by_parting(()), "")

    def test_of_rows_as_found_by_walking(self):
        for row in LONG_ROWS + ROWS:
            self.assertEqual(parting_of(row), parting_by_walking(row), row)

    def test_is_a_parting_of_as_many_points_that_does_not_cross(self):
        for row in LONG_ROWS + ROWS:
            told = parting_of(row)
            self.assertTrue(is_parting_without_crossing(told), row)
            self.assertEqual(sum(len(block) for block in told), len(row) // 2)
            self.assertTrue(holds_told_kinds_alone(told))
            self.assertEqual(parting_of(row), told)

    def test_tells_the_row(self):
        for row in LONG_ROWS + ROWS:
            told = row_by_parting(parting_by_walking(row))
            self.assertIs(type(told), str)
            self.assertEqual(told, row)
            self.assertEqual(row_by_parting(parting_of(row)), row)

    def test_every_parting_of_few_points(self):
        for size, rows in enumerate(SMALL):
            uncrossed = [parting for parting in all_partings(size) if not crosses(parting)]
            self.assertEqual(sorted(parting_of(row) for row in rows), sorted(uncrossed))
            for parting in all_partings(size):
                self.assert_told_or_refused(parting)

    def test_two_blocks_that_cross(self):
        self.assert_no_row(row_by_parting, ((0, 2), (1, 3)))
        self.assert_no_row(row_by_parting, ((0, 1, 4), (2,), (3, 5)))
        for far in range(4, 60):
            between = tuple((point,) for point in range(2, far))
            self.assert_no_row(row_by_parting, ((0, far), (1, far + 1)) + between)
        self.assert_no_row(row_by_parting, (tuple(range(0, 60, 2)), tuple(range(1, 60, 2))))

    def test_all_points_in_one_block_and_each_in_its_own(self):
        for size in range(1, 61):
            self.assertEqual(row_by_parting((tuple(range(size)),)), "(" * size + ")" * size)
            self.assertEqual(row_by_parting(tuple((point,) for point in range(size))), "()" * size)

    def test_a_block_spoilt(self):
        for row in ROWS[::3] + SMALL[4]:
            for thing in spoilt_blocks(parting_by_walking(row)):
                self.assert_told_or_refused(thing)

    def test_a_point_spoilt(self):
        for row in ROWS[::3] + SMALL[4]:
            for thing in spoilt_points(parting_by_walking(row)):
                self.assert_told_or_refused(thing)

    def test_what_is_no_parting_plainly(self):
        for thing in (((),), ((), (0,)), ((0,), ()), ((1,),), ((0,), (2,)), ((0, 0),), ((0,), (0,)), ((1,), (0,)),
                      ((1, 0),), ((0, 1), (1,)), ((-1, 0),), ((-1,),), ((0, 2),), (0,), (0, 1), 0, None, "", "()",
                      [], [(0,)], ([0],), ((0,), [1]), ((False,),), ((0, True),), ((0,), (True,)), (("0",),),
                      ((None,),), (None,), ("0",), (((0,),),), ((0, (1,)),), ((10 ** 5000,),), ((-10 ** 5000, 0),)):
            self.assert_no_row(row_by_parting, thing)

    def test_any_thing_in_place_of_a_parting_a_block_or_a_point(self):
        for thing in things_of_all_kinds():
            before = copy.deepcopy(thing)
            self.assert_told_or_refused(thing)
            for put in ((thing,), (thing, (1,)), ((0,), thing), ((0,), thing, (2,)), ((0, 2), thing)):
                self.assert_told_or_refused(put)
            for block in ((thing,), (0, thing), (thing, 1), (0, thing, 2)):
                self.assert_told_or_refused((block,))
            for put in (((0,), (thing,)), ((0, thing), (2,))):
                self.assert_told_or_refused(put)
            self.assertEqual(thing, before)

    def test_things_with_more_parts_than_can_be_walked(self):
        for thing in doubled_things():
            for put in (thing, (thing,), ((0,), thing), ((thing,),), ((0, thing),)):
                self.assert_no_row(row_by_parting, put)

    def test_lists_in_place_of_tuples(self):
        for row in ROWS[1:]:
            parting = parting_by_walking(row)
            if parting:
                self.assert_no_row(row_by_parting, list(parting))
                self.assert_no_row(row_by_parting, tuple(list(block) for block in parting))
                self.assert_no_row(row_by_parting, parting[:-1] + (list(parting[-1]),))


def openings(tree):
    return 0 if tree is None else openings(tree[0]) + 1 + openings(tree[1])


def threes_by_tree(tree, first, last):
    if tree is None:
        return []
    middle = first + openings(tree[0]) + 1
    behind = threes_by_tree(tree[0], first, middle) + threes_by_tree(tree[1], middle, last)
    return [(first, middle, last)] + behind


def sides_of(cut):
    return [side for three in cut for side in itertools.combinations(three, 2)]


def sides_cross(side, other):
    return side[0] < other[0] < side[1] < other[1] or other[0] < side[0] < other[1] < side[1]


def is_cut(cut, size):
    """Whether threes, as many as told, have each side of the field once, each other one twice, and cross nowhere."""
    sides = sides_of(cut)
    round_it = [(corner, corner + 1) for corner in range(size + 1)] + [(0, size + 1)]
    if any(sides.count(side) != (1 if side in round_it else 2) for side in sides + round_it):
        return False
    return not any(sides_cross(side, other) for side, other in itertools.combinations(set(sides), 2))


class Cuts(unittest.TestCase):
    def test_plainly(self):
        self.assertEqual(cut_of(""), ())
        self.assertEqual(cut_of("()"), ((0, 1, 2),))
        self.assertEqual(cut_of("()()"), ((0, 1, 3), (1, 2, 3)))
        self.assertEqual(cut_of("(())"), ((0, 1, 2), (0, 2, 3)))
        self.assertEqual(cut_of("(()())()"), ((0, 1, 3), (0, 3, 5), (1, 2, 3), (3, 4, 5)))
        self.assertEqual(row_by_cut(()), "")
        self.assertEqual(row_by_cut(((0, 1, 3), (0, 3, 5), (1, 2, 3), (3, 4, 5))), "(()())()")

    def test_of_rows_as_the_tree_and_the_corners_tell(self):
        for row in LONG_ROWS + ROWS:
            expected = tuple(sorted(threes_by_tree(tree_of(row), 0, len(row) // 2 + 1)))
            self.assertEqual(cut_of(row), expected, row)

    def test_rises_and_so_does_each_three_of_corners_of_the_field(self):
        for row in ROWS:
            told = cut_of(row)
            self.assertEqual(len(told), len(row) // 2)
            self.assertTrue(rises(told), row)
            for three in told:
                self.assertEqual(len(three), 3)
                self.assertTrue(rises(three), row)
                self.assertTrue(0 <= three[0] and three[2] <= len(row) // 2 + 1, row)

    def test_no_sides_cross_and_each_is_in_as_many_threes_as_told(self):
        for row in ROWS:
            if row:
                self.assertTrue(is_cut(cut_of(row), len(row) // 2), row)

    def test_every_cut_of_a_small_field(self):
        for size in range(1, 5):
            threes = list(itertools.combinations(range(size + 2), 3))
            cuts = [cut for cut in itertools.combinations(threes, size) if is_cut(cut, size)]
            self.assertEqual(sorted(cut_of(row) for row in SMALL[size]), sorted(cuts))
            for cut in cuts:
                self.assertEqual(cut_of(row_by_cut(cut)), cut)

    def test_tells_the_row(self):
        for row in LONG_ROWS + ROWS:
            cut = tuple(sorted(threes_by_tree(tree_of(row), 0, len(row) // 2 + 1)))
            self.assertEqual(row_by_cut(cut), row)
            self.assertEqual(row_by_cut(cut_of(row)), row)

    def test_of_the_mirrored_tree_has_the_corners_the_other_way_round(self):
        for row in ROWS:
            last = len(row) // 2 + 1
            turned = [tuple(last - corner for corner in three[::-1]) for three in cut_of(row)]
            self.assertEqual(cut_of(row_by_tree(mirrored(tree_of(row)))), tuple(sorted(turned)), row)

    def test_told_kinds_alone_and_the_same_again(self):
        for row in ROWS:
            told = cut_of(row)
            self.assertTrue(holds_told_kinds_alone(told))
            self.assertEqual(cut_of(row), told)
            self.assertIs(type(row_by_cut(told)), str)
            self.assertEqual(row_by_cut(told), row_by_cut(told))

    def test_sizes_from_none_to_twenty_are_among_the_rows(self):
        self.assertEqual(sorted({len(row) // 2 for row in ROWS}), list(range(MIDDLING + 1)))
