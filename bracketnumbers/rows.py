"""Rows of brackets: whether they are whole, how deep, and how they turn."""

from bracketnumbers.errors import NoPlace

LONGEST = 120
TURNED = {"(": ")", ")": "("}


def rise(sign):
    return 1 if sign == "(" else -1


# The empty head counts too: so there is always a level to take the least and the greatest of.
def levels(row):
    heads = [0]
    for sign in row:
        heads.append(heads[-1] + rise(sign))
    return heads


# The length is asked first, because a longer text is no row, however its brackets go together.
def is_whole(thing):
    if not isinstance(thing, str) or len(thing) > LONGEST:
        return False
    if any([sign not in TURNED for sign in thing]):
        return False
    heads = levels(thing)
    return min(heads) == 0 and heads[-1] == 0


def depth(row):
    return max(levels(row))


# One walk does for both kinds of bracket: away from the bracket, until as many shut as open.
# The refusal does not name the place: Python does not write numbers of more than some thousand digits.
def partner(row, place):
    if place < 0 or place >= len(row):
        raise NoPlace("the row has no such place")
    step = rise(row[place])
    level = step
    here = place
    while level != 0:
        here = here + step
        level = level + rise(row[here])
    return here


def backward(row):
    return "".join([TURNED[sign] for sign in reversed(row)])


# From the last of the lowest heads on, and only from there, the row keeps above the level it starts from,
# also behind its end, where it goes on one level higher.
def turn_of(row):
    heads = levels(row)
    lowest = min(heads)
    return max([place for place in range(len(heads)) if heads[place] == lowest])
