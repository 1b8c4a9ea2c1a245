"""How one whole row becomes another, two brackets side by side at a time."""

from bracketnumbers.errors import NoRow
from bracketnumbers.rows import is_whole


def with_places_changed(row, place):
    return row[:place] + row[place + 1] + row[place] + row[place + 2:]


def moves(row):
    unlike = [place for place in range(len(row) - 1) if row[place] != row[place + 1]]
    changed = [with_places_changed(row, place) for place in unlike]
    return tuple(sorted([text for text in changed if is_whole(text)]))


# From the front on, the next bracket that fits is brought ahead, step by step. All rows on the way are whole:
# one that opens only lifts the heads it goes past, and one that shuts is brought ahead of nothing but
# brackets that open, to a place where the other row, alike up to there, shuts one too.
def path(row, other):
    if not is_whole(row) or not is_whole(other):
        raise NoRow("a path leads from a whole row to a whole row")
    if len(row) != len(other):
        raise NoRow("a path leads to a row of the same size")
    passed = [row]
    for place, sign in enumerate(other):
        here = passed[-1].find(sign, place)
        while here > place:
            here = here - 1
            passed.append(with_places_changed(passed[-1], here))
    return tuple(passed)
