"""Whole rows as forests and as trees, and back."""

from bracketnumbers.rows import partner


# A row has at most 60 pairs, so none of the calls here goes deeper than that into itself.
def forest_of(row):
    forests = []
    rest = row
    while rest != "":
        shut = partner(rest, 0)
        forests.append(forest_of(rest[1:shut]))
        rest = rest[shut + 1:]
    return tuple(forests)


def row_by_forest(forest):
    return "".join(["(" + row_by_forest(part) + ")" for part in forest])


def tree_of(row):
    if row == "":
        return None
    shut = partner(row, 0)
    return (tree_of(row[1:shut]), tree_of(row[shut + 1:]))


def row_by_tree(tree):
    if tree is None:
        return ""
    return "(" + row_by_tree(tree[0]) + ")" + row_by_tree(tree[1])


def mirrored(tree):
    if tree is None:
        return None
    return (mirrored(tree[1]), mirrored(tree[0]))
