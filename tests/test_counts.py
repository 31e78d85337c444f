"""Promises 2, 3, 17 to 19, 26 and 27: quiltlaw.counts."""

import functools
import inspect
import itertools
import random
import unittest

from slow import GRAMMARS, large_grammars, random_grammar, rows_by_words

from quiltlaw import counts
from quiltlaw.counts import count_trees, number_of, tree_at
from quiltlaw.errors import NoName, NoNumber, NoTree, QuiltError
from quiltlaw.grammars import Grammar
from quiltlaw.rules import AboveRule, CellRule, TurnRule
from quiltlaw.texts import read_grammar
from quiltlaw.trees import cost_of, laid, tree_fault

SIXTY = 10 ** 60 - 1
TWO_CELLS = read_grammar("signs ab\nstart S\nS 1: a\nS 1: b\nS 1: S | S")
# Dear enough that few trees cost 16 or less.
DEAR = [read_grammar(text) for text in (
    "signs a\nstart S\nS 1: a\nS 2: S | S",
    "signs a\nstart S\nS 1: a\nS 2: S / S",
    "signs ab\nstart S\nS 1: a\nS 2: S | T\nT 1: b\nT 3: S turned 1\nT 4: T / T",
    "signs ab\nstart S\nA 3: a\nB 4: b\nS 2: A | B\nS 3: A / B\nS 1: S turned 3\nA 5: S turned 6",
    "signs a\nstart S\nS 3: a\nS 5: S turned 0\nS 4: S turned 7\nS 4: S | S\nS 4: S / S",
    "signs a\nstart S\nS 1: A turned 1\nS 2: S | A\nA 1: a\nA 3: S / A\nA 2: A turned 0",
)]
SIZES = list(itertools.product(range(1, 7), repeat=2))


def alike(cells, puts, turns):
    """A grammar of so many alike rules of each kind, all at cost 1."""
    rows = ["S 1: a"] * cells + ["S 1: S | S", "S 1: S / S"] * puts + ["S 1: S turned 0"] * turns
    return read_grammar("signs a\nstart S\n" + "\n".join(rows))


def count_by_words(grammar):
    """How many trees a row has, reckoned rule by rule; it goes through all sizes and costs."""
    @functools.cache
    def many(name, rows, columns, cost):
        total = 0
        for rule in grammar.rules():
            left = cost - rule.cost
            if rule.name != name or left < 0:
                continue
            if isinstance(rule, CellRule):
                total += (rows, columns, left) == (1, 1, 0)
            elif isinstance(rule, TurnRule):
                size = (columns, rows) if rule.turning in (1, 3, 5, 7) else (rows, columns)
                total += many(rule.part, *size, left)
            else:
                across = not isinstance(rule, AboveRule)
                for at, cost_of_one in itertools.product(range(1, columns if across else rows), range(1, left)):
                    one = (rows, at) if across else (at, columns)
                    other = (rows, columns - at) if across else (rows - at, columns)
                    first = many(rule.one, *one, cost_of_one)
                    total += first and first * many(rule.other, *other, left - cost_of_one)
        return total
    return many


class InterfaceTest(unittest.TestCase):
    def test_names_and_arguments(self):
        asked = {"count_trees": ["grammar", "name", "rows", "columns", "cost"],
                 "tree_at": ["grammar", "name", "rows", "columns", "cost", "k"], "number_of": ["grammar", "tree"]}
        for name, arguments in asked.items():
            self.assertEqual(list(inspect.signature(getattr(counts, name)).parameters), arguments)


class RowTest(unittest.TestCase):
    def refused(self, error, function, *handed):
        with self.subTest(function=function.__name__, handed=handed[1:]):
            with self.assertRaises(QuiltError) as caught:
                function(*handed)
            self.assertIs(type(caught.exception), error)
            self.assertEqual(error.__bases__, (QuiltError,))
            return caught.exception

    def row(self, grammar, row, trees):
        """The row is these trees, by each of the three functions."""
        with self.subTest(grammar=grammar.told(), row=row):
            self.assertEqual(count_trees(grammar, *row), len(trees))
            self.assertIs(type(count_trees(grammar, *row)), int)
            for k, tree in enumerate(trees):
                told = tree_at(grammar, *row, k)
                self.assertEqual(told, tree)
                self.assertIs(type(told), tuple)
                self.assertEqual(number_of(grammar, tree), k)
                self.assertIs(type(number_of(grammar, tree)), int)
            for k in (-1, len(trees), len(trees) + 1, SIXTY, -SIXTY):
                self.refused(NoNumber, tree_at, grammar, *row, k)


class OrderTest(RowTest):
    def test_cells(self):
        grammar = read_grammar("signs ab\nstart S\nS 1: a\nS 2: a\nA 1: a\nS 1: b\nS 1: a")
        self.row(grammar, ("S", 1, 1, 1), [(0,), (3,), (4,)])
        self.row(grammar, ("S", 1, 1, 2), [(1,)])
        self.row(grammar, ("A", 1, 1, 1), [(2,)])
        self.row(grammar, ("A", 1, 1, 2), [])

    def test_the_first_part_ahead_of_the_second(self):
        self.row(TWO_CELLS, ("S", 1, 2, 3), [(2, (0,), (0,)), (2, (0,), (1,)), (2, (1,), (0,)), (2, (1,), (1,))])

    def test_columns_of_the_first_part(self):
        grammar = read_grammar("signs a\nstart S\nS 1: a\nS 1: S | S")
        three = (1, (0,), (1, (0,), (0,)))
        other = (1, (1, (0,), (0,)), (0,))
        self.row(grammar, ("S", 1, 3, 5), [three, other])
        self.row(grammar, ("S", 1, 4, 7), [(1, (0,), three), (1, (0,), other), (1, other[1], other[1]),
                                           (1, three, (0,)), (1, other, (0,))])

    def test_rows_of_the_first_part(self):
        grammar = read_grammar("signs a\nstart S\nS 1: a\nS 1: S / S")
        self.row(grammar, ("S", 3, 1, 5), [(1, (0,), (1, (0,), (0,))), (1, (1, (0,), (0,)), (0,))])

    def test_size_ahead_of_cost(self):
        """The first part of one column is dear, that of two is cheap."""
        grammar = read_grammar("signs a\nstart S\nS 4: a\nT 1: a\nS 1: T | T\nS 1: S | U\nU 2: a\nU 3: T | T")
        self.row(grammar, ("S", 1, 3, 6), [(3, (2, (1,), (1,)), (4,))])
        self.row(grammar, ("S", 1, 3, 10), [(3, (0,), (5, (1,), (1,))), (3, (3, (0,), (4,)), (4,))])
        meet = read_grammar("signs a\nstart S\nA 7: a\nA 1: B | B\nB 1: a\nC 2: B | B\nC 8: a\nS 1: A | C")
        self.row(meet, ("S", 1, 3, 12), [(5, (0,), (3, (2,), (2,))), (5, (1, (2,), (2,)), (4,))])
        high = read_grammar("signs a\nstart S\nA 7: a\nA 1: B / B\nB 1: a\nC 2: B / B\nC 8: a\nS 1: A / C")
        self.row(high, ("S", 3, 1, 12), [(5, (0,), (3, (2,), (2,))), (5, (1, (2,), (2,)), (4,))])

    def test_cost_ahead_of_the_part(self):
        """Rule 0 is the dearer one, so by the first part's number it would stand first."""
        grammar = read_grammar("signs a\nstart S\nA 2: a\nA 1: a\nS 1: A | A\nS 1: A / A")
        self.row(grammar, ("S", 1, 2, 4), [(2, (1,), (0,)), (2, (0,), (1,))])
        self.row(grammar, ("S", 2, 1, 4), [(3, (1,), (0,)), (3, (0,), (1,))])
        self.row(grammar, ("S", 1, 2, 3), [(2, (1,), (1,))])

    def test_the_number_at_the_top_ahead_of_all(self):
        grammar = read_grammar("signs a\nstart S\nS 1: T turned 0\nT 3: a\nS 2: T turned 1\nT 2: a\nS 4: a\nT 3: a")
        self.row(grammar, ("S", 1, 1, 4), [(0, (1,)), (0, (5,)), (2, (3,)), (4,)])

    def test_turnings(self):
        grammar = read_grammar("signs a\nstart S\nA 1: a\nB 1: A | A\nB 1: A | A\n"
                               + "\n".join(f"S 1: B turned {t}" for t in range(8)))
        flat = [(3 + t, (b, (0,), (0,))) for t in (0, 2, 4, 6) for b in (1, 2)]
        high = [(3 + t, (b, (0,), (0,))) for t in (1, 3, 5, 7) for b in (1, 2)]
        self.row(grammar, ("S", 1, 2, 4), flat)
        self.row(grammar, ("S", 2, 1, 4), high)
        self.row(grammar, ("S", 2, 2, 4), [])

    def test_rings_of_turnings(self):
        grammar = read_grammar("signs a\nstart S\nS 1: T turned 1\nT 1: S turned 3\nT 1: a\nS 2: S turned 5")
        self.row(grammar, ("S", 1, 1, 1), [])
        self.row(grammar, ("S", 1, 1, 2), [(0, (2,))])
        self.row(grammar, ("S", 1, 1, 4), [(0, (1, (0, (2,)))), (3, (0, (2,)))])
        self.assertEqual([count_trees(grammar, "S", 1, 1, cost) for cost in range(1, 17)],
                         [0, 1, 0, 2, 0, 4, 0, 8, 0, 16, 0, 32, 0, 64, 0, 128])
        nowhere = read_grammar("signs a\nstart S\nS 1: T turned 0\nT 1: S turned 0\nS 1: S | S\nS 1: S / T")
        for size in SIZES:
            self.row(nowhere, ("S", *size, 16), [])
        alone = read_grammar("signs a\nstart S\nS 1: a\nS 1: S turned 0")
        tree = (0,)
        for cost in range(1, 17):
            self.row(alone, ("S", 1, 1, cost), [tree])
            tree = (1, tree)


class SlowlyTest(RowTest):
    def held(self, grammar, most, sizes):
        rows = rows_by_words(grammar, most)
        for name, size, cost in itertools.product(grammar.names(), sizes, range(1, most + 1)):
            self.row(grammar, (name, *size, cost), rows.get((name, *size, cost), []))
        return sum(len(trees) for trees in rows.values())

    def test_each_grammar(self):
        sizes = list(itertools.product(range(1, 4), repeat=2))
        for text in GRAMMARS.values():
            self.held(read_grammar(text), 8, sizes)

    def test_some_grammars(self):
        chance = random.Random(26)
        trees = 0
        for _ in range(60):
            grammar = random_grammar(chance, names=chance.choice(["S", "SA", "SAB"]), many=chance.randint(1, 6))
            trees += self.held(grammar, 7, [(1, 1), (1, 2), (2, 1), (2, 2), (1, 3), (3, 1)])
        self.assertGreater(trees, 1000)

    def test_up_to_cost_16(self):
        trees = 0
        for grammar in DEAR:
            trees += self.held(grammar, 16, SIZES)
        self.assertGreater(trees, 200)

    def test_large_counts(self):
        grammars = [alike(3, 2, 1), *large_grammars()]
        chance = random.Random(27)
        grammars += [random_grammar(chance, "abcd", ["S", *"ABCDEFG"], 20) for _ in range(3)]
        for grammar in grammars:
            slowly = count_by_words(grammar)
            for size, cost in itertools.product([(1, 1), (1, 2), (3, 1), (2, 2), (1, 6), (2, 4), (4, 2)], (9, 15, 16)):
                for name in grammar.names():
                    self.assertEqual(count_trees(grammar, name, *size, cost), slowly(name, *size, cost))


class EdgeTest(RowTest):
    def test_six_by_one_at_16(self):
        row, column = DEAR[0], DEAR[1]
        self.assertEqual(count_trees(row, "S", 1, 6, 16), 42)
        self.assertEqual(count_trees(column, "S", 6, 1, 16), 42)
        self.assertEqual([count_trees(row, "S", 1, 6, cost) for cost in (1, 15)], [0, 0])
        self.assertEqual([count_trees(row, "S", 6, 1, cost) for cost in range(1, 17)], [0] * 16)

    def test_cost_1(self):
        for size in SIZES:
            self.assertEqual(count_trees(TWO_CELLS, "S", *size, 1), 2 if size == (1, 1) else 0)

    def test_sizes_that_no_tree_lays_out(self):
        for size in SIZES:
            if size[0] > 1:
                self.row(TWO_CELLS, ("S", *size, 16), [])
        self.row(TWO_CELLS, ("S", 1, 2, 4), [])

    def test_somewhat_beyond(self):
        """Nothing is refused for its bounds: no tree lays out more than six by six."""
        for grammar, size in itertools.product((TWO_CELLS, alike(2, 3, 2)), ((1, 7), (7, 1), (7, 2), (1, 0), (0, 1))):
            for cost in (1, 13, 14, 16):
                self.row(grammar, ("S", *size, cost), [])
        self.row(TWO_CELLS, ("S", 1, 1, 0), [])
        self.row(TWO_CELLS, ("S", 1, 1, -3), [])
        ring = read_grammar("signs a\nstart S\nS 1: a\nS 1: S turned 1")
        for cost in (17, 20):
            tree = (0,)
            for _ in range(cost - 1):
                tree = (1, tree)
            self.row(ring, ("S", 1, 1, cost), [tree])

    def test_names_without_a_rule(self):
        grammar = read_grammar(GRAMMARS["names without a rule"])
        self.row(grammar, ("N", 1, 1, 1), [])
        self.row(grammar, ("N", 6, 6, 16), [])
        self.row(grammar, ("S", 1, 2, 3), [])
        self.row(read_grammar(GRAMMARS["no rules"]), ("S", 1, 1, 1), [])

    def test_no_name_ahead_of_all_else(self):
        for name in ("T", "AB", "", "a", "ABCDE"):
            for size, cost in itertools.product(((1, 1), (6, 6), (7, 0)), (0, 1, 16)):
                self.refused(NoName, count_trees, TWO_CELLS, name, *size, cost)
                for k in (0, -1, SIXTY):
                    self.refused(NoName, tree_at, TWO_CELLS, name, *size, cost, k)

    def test_no_tree(self):
        grammar = read_grammar("signs ab\nstart S\nA 1: a\nB 2: b\nS 3: A | B\nS 4: S / S\nS 5: S turned 1")
        row = (2, (0,), (1,))
        for tree, why in (((5,), ("number", ())), ((-1,), ("number", ())), ((SIXTY,), ("number", ())),
                          ((2, (0,), (9,)), ("number", (1,))), ((2, (0,)), ("parts", ())), ((0, (0,)), ("parts", ())),
                          ((4, row, row), ("parts", ())), ((2, (1,), (0,)), ("name", (0,))),
                          ((2, (0,), (0,)), ("name", (1,))), ((4, (4, (0,))), ("name", (0, 0))),
                          ((3, row, (4, row)), ("fit", ())), ((4, (3, (4, row), row)), ("fit", (0,)))):
            self.assertEqual(self.refused(NoTree, number_of, grammar, tree).why, why)
            self.assertIs(type(self.refused(NoTree, number_of, grammar, tree).why), tuple)
            self.assertEqual(tree_fault(grammar, tree), why)

    def test_what_is_handed_in_stays(self):
        grammar = read_grammar(GRAMMARS["both"])
        text = grammar.told()
        before = [count_trees(grammar, "S", 2, 1, cost) for cost in range(1, 17)]
        tree = tree_at(grammar, "S", 2, 1, 3, 0)
        number_of(grammar, tree)
        count_trees(read_grammar(GRAMMARS["above"]), "S", 2, 1, 6)
        self.assertEqual([count_trees(grammar, "S", 2, 1, cost) for cost in range(1, 17)], before)
        self.assertEqual(grammar.told(), text)

    def test_rules_in_another_order(self):
        chance = random.Random(3)
        for text in GRAMMARS.values():
            grammar = read_grammar(text)
            rules = grammar.rules()
            chance.shuffle(rules)
            other = Grammar(grammar.signs, grammar.start, rules)
            for size, cost in itertools.product(((1, 1), (1, 2), (2, 1), (2, 2), (3, 1)), range(1, 17)):
                self.assertEqual(count_trees(grammar, "S", *size, cost), count_trees(other, "S", *size, cost))


class GreatTest(RowTest):
    """Far more trees than can be gone through."""

    def stands_there(self, grammar, row, k):
        tree = tree_at(grammar, *row, k)
        picture = laid(grammar, tree)
        self.assertEqual((grammar.rule(tree[0]).name, len(picture), len(picture[0]), cost_of(grammar, tree)), row)
        self.assertEqual(number_of(grammar, tree), k)
        return tree

    def test_alike_rules(self):
        many = alike(22, 1, 0)
        self.assertEqual(count_trees(many, "S", 1, 6, 11), 22 ** 6 * 42)
        self.assertEqual(count_trees(many, "S", 6, 1, 11), 22 ** 6 * 42)
        self.assertEqual(count_trees(many, "S", 2, 2, 7), 22 ** 4 * 2)
        self.assertEqual(count_trees(alike(1, 0, 23), "S", 1, 1, 16), 23 ** 15)
        turns = alike(12, 0, 12)
        self.assertEqual(count_trees(turns, "S", 1, 1, 16), 12 ** 16)
        self.assertEqual(count_trees(read_grammar("signs a\nstart S\n" + "\n".join(["S 8: a"] * 24)), "S", 1, 1, 8), 24)

    def test_the_first_and_the_last(self):
        many = alike(22, 1, 0)
        row = ("S", 1, 3, 5)
        last = 22 ** 3 * 2 - 1
        self.assertEqual(tree_at(many, *row, 0), (22, (0,), (22, (0,), (0,))))
        self.assertEqual(tree_at(many, *row, 1), (22, (0,), (22, (0,), (1,))))
        self.assertEqual(tree_at(many, *row, 22), (22, (0,), (22, (1,), (0,))))
        self.assertEqual(tree_at(many, *row, 22 ** 2), (22, (1,), (22, (0,), (0,))))
        self.assertEqual(tree_at(many, *row, 22 ** 3), (22, (22, (0,), (0,)), (0,)))
        self.assertEqual(tree_at(many, *row, last), (22, (22, (21,), (21,)), (21,)))
        self.refused(NoNumber, tree_at, many, *row, last + 1)

    def test_here_and_there(self):
        chance = random.Random(28)
        for grammar in (alike(3, 3, 2), alike(1, 8, 7), alike(12, 0, 12), *large_grammars()):
            for size, cost in itertools.product(((1, 1), (1, 6), (2, 4), (4, 2), (3, 2), (6, 6)), (15, 16)):
                many = count_trees(grammar, "S", *size, cost)
                for k in {0, many // 2, many - 1, *[chance.randrange(many or 1) for _ in range(4)]}:
                    if 0 <= k < many:
                        self.stands_there(grammar, ("S", *size, cost), k)
                self.refused(NoNumber, tree_at, grammar, "S", *size, cost, many)


if __name__ == "__main__":
    unittest.main()
