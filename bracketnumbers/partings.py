"""Whole rows as partings of points in a ring and as cuts of a field into threes, and back."""

from bracketnumbers.errors import NoRow
from bracketnumbers.rows import is_whole, partner


# Split at the brackets that open, a row falls into the stretches that shut behind each of them;
# an empty one is no stretch: there the next bracket opens at once.
def parting_of(row):
    free = []
    blocks = []
    for point, stretch in enumerate(row.split("(")[1:]):
        free.append(point)
        if stretch != "":
            kept = len(free) - len(stretch)
            blocks.append(tuple(free[kept:]))
            free = free[:kept]
    return tuple(sorted(blocks))


def is_point(thing):
    return isinstance(thing, int) and not isinstance(thing, bool)


def is_block(thing):
    return isinstance(thing, tuple) and len(thing) > 0 and all([is_point(point) for point in thing])


def has_blocks(thing):
    return isinstance(thing, tuple) and all([is_block(block) for block in thing])


# A block is made behind the last of its points, by a stretch as long as the block.
def shut_behind_last_points(blocks):
    lengths = {}
    for block in blocks:
        lengths[block[-1]] = len(block)
    points = sum([len(block) for block in blocks])
    return "".join(["(" + ")" * lengths.get(point, 0) for point in range(points)])


# Only a parting that doesn't cross comes back from the row made of it, so that is all there is to ask.
# The kinds are asked first: True equals 1, and a thing thirty deep may have too many parts to compare.
def row_by_parting(parting):
    if not has_blocks(parting):
        raise NoRow("this is no parting")
    row = shut_behind_last_points(parting)
    if not is_whole(row) or parting_of(row) != parting:
        raise NoRow("this is no parting that doesn't cross")
    return row


def threes(row, first, last):
    if row == "":
        return []
    shut = partner(row, 0)
    within = row[1:shut]
    middle = first + len(within) // 2 + 1
    return [(first, middle, last)] + threes(within, first, middle) + threes(row[shut + 1:], middle, last)


def cut_of(row):
    return tuple(sorted(threes(row, 0, len(row) // 2 + 1)))


def row_between(middles, first, last):
    middle = middles.get((first, last))
    if middle is None:
        return ""
    return "(" + row_between(middles, first, middle) + ")" + row_between(middles, middle, last)


# Of the threes at a side at most one has its third corner between the two, so the side tells its middle.
def row_by_cut(cut):
    middles = {}
    for first, middle, last in cut:
        middles[(first, last)] = middle
    return row_between(middles, 0, len(cut) + 1)
