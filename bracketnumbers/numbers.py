"""How many whole rows there are, the number of each, and the row of each number."""

from bracketnumbers.errors import NoRow
from bracketnumbers.rows import LONGEST, is_whole


# A way of one sign more begins with a step up or down, and neither may leave the levels that there are.
def one_sign_more(ways):
    more = []
    for level in range(len(ways)):
        shut = ways[level - 1] if level > 0 else 0
        opened = ways[level + 1] if level + 1 < len(ways) else 0
        more.append(shut + opened)
    return more


# endings(signs, top)[left][level] is how many ways there are from a level down to 0
# with this many signs left, none of them below 0 or above the top.
def endings(signs, top):
    ways = [1] + [0] * top
    table = [ways]
    for step in range(signs):
        ways = one_sign_more(ways)
        table.append(ways)
    return table


# A bound above the size forbids nothing, so the table needn't grow with it.
def count(size, bound):
    if size < 0 or bound < 0:
        return 0
    signs = 2 * size
    return endings(signs, min(size, bound))[signs][0]


# The table of all rows of a size has one level to spare: what would open
# behind the deepest bracket is looked up too, and found to have no ending.
def endings_of_size(size):
    return endings(2 * size, size + 1)


# Ahead of a row stand, for each bracket that shuts, all rows that are like it up to there and open instead.
def number(row):
    if not is_whole(row):
        raise NoRow("this is no whole row")
    table = endings_of_size(len(row) // 2)
    left = len(row)
    level = 0
    ahead = 0
    for sign in row:
        left = left - 1
        if sign == "(":
            level = level + 1
        else:
            ahead = ahead + table[left][level + 1]
            level = level - 1
    return ahead


# A size whose rows would be longer than rows may be has no row of any number.
def has_row(size, wanted):
    if 2 * size > LONGEST or wanted < 0:
        return False
    return wanted < count(size, size)


# The refusal does not name the number: Python does not write those of more than some thousand digits.
def row_of(size, number):
    if not has_row(size, number):
        raise NoRow("no whole row of this size has this number")
    table = endings_of_size(size)
    signs = []
    level = 0
    rest = number
    for left in range(2 * size - 1, -1, -1):
        opened = table[left][level + 1]
        if rest < opened:
            signs.append("(")
            level = level + 1
        else:
            signs.append(")")
            level = level - 1
            rest = rest - opened
    return "".join(signs)


def next_row(row):
    size = len(row) // 2
    following = number(row) + 1
    return row_of(size, following) if has_row(size, following) else None
