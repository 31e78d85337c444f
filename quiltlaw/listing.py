"""The trees of a name, a size and a cost, listed one by one."""

from quiltlaw.counts import TreeRows
from quiltlaw.errors import TooMany

MOST_TREES = 300


def trees_of(grammar, name, rows, columns, cost):
    """All trees of a name, a size and a cost, in their order. NoName, TooMany."""
    tree_rows = TreeRows(grammar)
    row = (name, rows, columns, cost)
    many = tree_rows.many_in(row)
    if many > MOST_TREES:
        raise TooMany("more trees than are listed")
    return [tree_rows.tree_in(row, k) for k in range(many)]
