"""Trees in rows: how many trees a name, a size and a cost have, and which stands where."""

from quiltlaw.errors import NoNumber
from quiltlaw.pictures import MOST, size_of
from quiltlaw.rules import fewest
from quiltlaw.trees import cost_of, laid


class TreeRows:
    """The rows of trees of a grammar, each reckoned once; a row is told by (name, rows, columns, cost)."""

    def __init__(self, grammar):
        self.grammar = grammar
        self.steps = {}
        self.totals = {}

    def many_in(self, row):
        """How many trees stand in a row. NoName."""
        self.steps_of(row)
        return self.totals[row]

    def steps_of(self, row):
        """What the trees of a row begin with, in order. NoName.

        Each is a tuple (the top's number, the rows of its parts, how many trees begin so).
        """
        if row not in self.steps:
            steps = self.reckoned(row)
            self.steps[row] = steps
            self.totals[row] = sum([many for number, rows, many in steps])
        return self.steps[row]

    def reckoned(self, row):
        """What steps_of tells of a row that it does not know yet."""
        numbers = self.grammar.numbers_of(row[0])
        size = row[1:3]
        if max(size) > MOST or row[3] < fewest(size):
            return []
        steps = []
        for number in numbers:
            for rows in self.grammar.rule(number).part_rows(row[1], row[2], row[3]):
                many = self.many_together(rows)
                if many > 0:
                    steps.append((number, rows, many))
        return steps

    def many_together(self, rows):
        """In how many ways one tree can be taken of each of the rows."""
        many = 1
        for row in rows:
            # Where one row has no tree the others need not be reckoned.
            if many > 0:
                many = many * self.many_in(row)
        return many

    def tree_in(self, row, k):
        """The tree of number k in a row. NoName, NoNumber."""
        passed = 0
        for number, rows, many in self.steps_of(row):
            if passed <= k < passed + many:
                return (number,) + self.trees_in(rows, k - passed)
            passed = passed + many
        raise NoNumber("no tree stands at this number")

    def trees_in(self, rows, k):
        """The trees, one of each of the rows, of number k, the last of them changing first."""
        trees = ()
        for row in reversed(rows):
            many = self.many_in(row)
            trees = (self.tree_in(row, k % many),) + trees
            k = k // many
        return trees

    def number_in(self, tree):
        """The number of a tree without a fault in its own row."""
        rows = [row_of(self.grammar, part) for part in tree[1:]]
        within = 0
        for row, part in zip(rows, tree[1:]):
            within = within * self.many_in(row) + self.number_in(part)
        passed = 0
        for number, others, many in self.steps_of(row_of(self.grammar, tree)):
            if (number, others) == (tree[0], rows):
                break
            passed = passed + many
        return passed + within


def row_of(grammar, tree):
    """The row in which a tree stands. NoTree."""
    size = size_of(laid(grammar, tree))
    return (grammar.rule(tree[0]).name,) + size + (cost_of(grammar, tree),)


def count_trees(grammar, name, rows, columns, cost):
    """How many trees a name, a size and a cost have. NoName."""
    return TreeRows(grammar).many_in((name, rows, columns, cost))


def tree_at(grammar, name, rows, columns, cost, k):
    """The tree of number k of a name, a size and a cost. NoName, NoNumber."""
    return TreeRows(grammar).tree_in((name, rows, columns, cost), k)


def number_of(grammar, tree):
    """The number of a tree in its own row. NoTree."""
    # Asked of the whole tree first: a fault is told by its place in the whole.
    laid(grammar, tree)
    return TreeRows(grammar).number_in(tree)
