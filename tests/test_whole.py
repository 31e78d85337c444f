"""Promises 2 and 3: what the document says of the whole program, sentence by sentence."""

import copy
import itertools
import random
import unittest

from slow import (GRAMMARS, HEAD, LARGER, SMALL, coming, made_within, pictures_of_size, random_grammar, rows_by_words,
                  seen_by_windows, trees_up_to, turned_by_cells)

from quiltlaw.best import first_tree
from quiltlaw.counts import count_trees, number_of, tree_at
from quiltlaw.errors import TooMany
from quiltlaw.grammars import Grammar
from quiltlaw.joining import joined, turned_grammar
from quiltlaw.listing import trees_of
from quiltlaw.papers import costs_by, holds, table_fault
from quiltlaw.sizes import pictures_of
from quiltlaw.tables import least_cost, table_of
from quiltlaw.texts import read_grammar, read_rule
from quiltlaw.thinning import come_to, of_use, thinned
from quiltlaw.trees import cost_of, laid, tree_fault
from quiltlaw.treetexts import read_tree, shown_tree


def small_grammars(many, seed):
    """Each of the named grammars and some others."""
    chance = random.Random(seed)
    return [read_grammar(text) for text in GRAMMARS.values()] + [
        random_grammar(chance, "ab", chance.choice(["S", "SA", "SAB"]), chance.randint(1, 9)) for _ in range(many)]


class MadeTest(unittest.TestCase):
    """Whether a name makes a picture, and by which tree."""

    def test_each_picture_and_each_name(self):
        made = 0
        for grammar in small_grammars(20, 301):
            least = made_within(grammar, 2)
            for picture, name in itertools.product(SMALL, grammar.names()):
                cost = least.get(("/".join(picture), name))
                tree = first_tree(grammar, picture, name)
                self.assertEqual(least_cost(grammar, picture, name), cost)
                self.assertEqual(tree is None, cost is None)
                if tree is not None:
                    self.assertEqual(laid(grammar, tree), picture)
                    self.assertEqual(cost_of(grammar, tree), cost)
                    self.assertEqual(grammar.rule(tree[0]).name, name)
                    self.assertEqual(read_tree(grammar, shown_tree(tree)), tree)
                    made += 1
        self.assertGreater(made, 400)

    def test_no_tree_lays_out_what_is_not_made(self):
        for grammar in small_grammars(10, 302):
            for name, cost, tree, picture in trees_up_to(grammar, 7):
                self.assertIsNone(tree_fault(grammar, tree))
                if len(picture) <= 2 and len(picture[0]) <= 2:
                    self.assertLessEqual(least_cost(grammar, picture, name), cost)


class TableTest(unittest.TestCase):
    """A table is the one just where every rule holds in it and each cost comes by a rule."""

    def is_the_one(self, grammar, picture, told):
        """Gone through by whoever has nothing but the rules and the dict."""
        for key in itertools.product(sorted(seen_by_windows(picture)), grammar.names()):
            costs = [cost for cost, _, _ in coming(grammar, told, key)]
            if costs != [] and (key not in told or told[key] > min(costs)):
                return False
            if key in told and told[key] not in costs:
                return False
        return True

    def test_just_where_it_is_the_table(self):
        chance = random.Random(303)
        right = wrong = 0
        for grammar in small_grammars(25, 304):
            for picture in (["ab"], ["a", "a"], ["ab", "ba"]):
                table = table_of(grammar, picture)
                keys = list(itertools.product(sorted(seen_by_windows(picture)), grammar.names()))
                self.assertTrue(holds(grammar, picture, table))
                for _ in range(6):
                    told = dict(table)
                    for key in chance.sample(keys, min(len(keys), chance.randint(0, 2))):
                        told[key] = chance.randint(1, 12)
                    asked = told == table
                    self.assertEqual(holds(grammar, picture, told), asked)
                    self.assertEqual(self.is_the_one(grammar, picture, told), asked)
                    right, wrong = right + asked, wrong + (not asked)
        self.assertGreater(min(right, wrong), 50)

    def test_both_are_read_from_it(self):
        for grammar in small_grammars(5, 305):
            for picture in LARGER:
                table = table_of(grammar, picture)
                for text, name in itertools.product(seen_by_windows(picture), grammar.names()):
                    costs = costs_by(grammar, table, (text, name))
                    self.assertEqual(table.get((text, name)), min(costs, default=None))
                self.assertEqual(table.get(("/".join(picture), "S")), least_cost(grammar, picture))


class RowsTest(unittest.TestCase):
    """As many trees as are told, each once, in order, each where its number says."""

    def test_rows(self):
        for grammar in small_grammars(15, 306):
            rows = rows_by_words(grammar, 6)
            for name, size, cost in itertools.product(grammar.names(), ((1, 1), (1, 2), (2, 1), (2, 2)), range(1, 7)):
                asked = rows.get((name, *size, cost), [])
                self.assertEqual(count_trees(grammar, name, *size, cost), len(asked))
                if len(asked) <= 300:
                    self.assertEqual(trees_of(grammar, name, *size, cost), asked)
                else:
                    self.assertRaises(TooMany, trees_of, grammar, name, *size, cost)
                for k, tree in enumerate(asked[:20]):
                    self.assertEqual(tree_at(grammar, name, *size, cost, k), tree)
                    self.assertEqual(number_of(grammar, tree), k)

    def test_the_least_cost_is_the_first_row_with_a_tree(self):
        """Of all pictures of a size the cheapest one costs what the first row that is not empty does."""
        for grammar in small_grammars(10, 307):
            for name, size in itertools.product(grammar.names(), ((1, 1), (1, 2), (2, 1), (2, 2))):
                costs = [cost for _, cost in pictures_of(grammar, name, *size) if cost <= 16]
                counts = [cost for cost in range(1, 17) if count_trees(grammar, name, *size, cost) > 0]
                self.assertEqual(min(costs, default=None), min(counts, default=None))

    def test_the_first_tree_stands_in_its_row(self):
        found = 0
        for grammar in small_grammars(10, 308):
            for picture, name in itertools.product(SMALL, grammar.names()):
                tree = first_tree(grammar, picture, name)
                if tree is not None and cost_of(grammar, tree) <= 16:
                    row = (name, len(picture), len(picture[0]), cost_of(grammar, tree))
                    self.assertEqual(tree_at(grammar, *row, number_of(grammar, tree)), tree)
                    found += 1
        self.assertGreater(found, 200)


class SizesTest(unittest.TestCase):
    """The pictures that are told for a size are just those that are told as made, at their costs."""

    def test_sizes(self):
        for grammar in small_grammars(8, 309):
            for name, size in itertools.product(grammar.names(), ((1, 1), (2, 1), (2, 2), (1, 3))):
                asked = [(picture, least_cost(grammar, picture, name)) for picture in pictures_of_size("ab", *size)]
                self.assertEqual(pictures_of(grammar, name, *size), [pair for pair in asked if pair[1] is not None])


class ChangedTest(unittest.TestCase):
    """A grammar thinned, in another order, joined or turned makes what it ought to, at the costs it ought to."""

    PICTURES = SMALL[::2] + LARGER[:2]

    def test_thinned(self):
        for grammar in small_grammars(15, 310):
            thin = thinned(grammar)
            for picture in self.PICTURES:
                self.assertEqual(least_cost(thin, picture), least_cost(grammar, picture))

    def test_in_another_order(self):
        chance = random.Random(311)
        for grammar in small_grammars(15, 312):
            rules = grammar.rules()
            chance.shuffle(rules)
            other = Grammar(grammar.signs, grammar.start, rules)
            for picture in self.PICTURES:
                # The other one may have its names in another order, but no others.
                self.assertEqual(table_of(other, picture), table_of(grammar, picture))

    def test_joined(self):
        grammars = [grammar for grammar in small_grammars(8, 313) if grammar.many() <= 11 and len(grammar.names()) <= 3]
        for one, other in itertools.product(grammars[::2], grammars[1::2]):
            for picture in (["a"], ["ab"], ["a", "b"], ["ab", "ba"]):
                costs = [cost + 1 for cost in (least_cost(one, picture), least_cost(other, picture)) if cost is not None]
                self.assertEqual(least_cost(joined(one, other, "either"), picture), min(costs, default=None))

    def test_turned(self):
        for grammar in small_grammars(6, 314):
            for t, picture in itertools.product(range(8), (["ab"], ["ab", "bb"], ["aab", "bab"])):
                whole = turned_grammar(grammar, t)
                for name in grammar.names():
                    self.assertEqual(least_cost(whole, turned_by_cells(picture, t), name),
                                     least_cost(grammar, picture, name))


class NothingIsChangedTest(unittest.TestCase):
    """Promise 2, for each function that takes a grammar."""

    def asked_all(self, grammar, picture, told, tree):
        """All that can be asked of these, by function."""
        return {
            "table_of": table_of(grammar, picture), "least_cost": least_cost(grammar, picture),
            "first_tree": first_tree(grammar, picture), "costs_by": costs_by(grammar, told, ("ab", "S")),
            "table_fault": table_fault(grammar, picture, told), "holds": holds(grammar, picture, told),
            "count_trees": count_trees(grammar, "S", 1, 2, 3), "tree_at": tree_at(grammar, "S", 1, 2, 3, 0),
            "number_of": number_of(grammar, tree), "trees_of": trees_of(grammar, "S", 1, 2, 3),
            "pictures_of": pictures_of(grammar, "S", 1, 2), "of_use": of_use(grammar), "come_to": come_to(grammar),
            "thinned": thinned(grammar).told(), "turned_grammar": turned_grammar(grammar, 1).told(),
            "joined": joined(grammar, grammar, "beside").told(), "laid": laid(grammar, tree),
            "cost_of": cost_of(grammar, tree), "rules": [rule.told() for rule in grammar.rules()],
            "names": grammar.names(), "numbers_of": grammar.numbers_of("S"), "told": grammar.told()}

    def spoil(self, value):
        """Do with a told list or dict whatever an asker may do."""
        if isinstance(value, list):
            for inner in value:
                self.spoil(inner)
            value.append("spoilt")
            value.reverse()
        elif isinstance(value, tuple):
            for inner in value:
                self.spoil(inner)
        elif isinstance(value, dict):
            value[("spoilt", "S")] = 0

    def test_nothing_is_changed(self):
        rules = [read_rule(row) for row in ("S 1: a", "S 1: b", "S 1: S | S", "S 2: S turned 1", "N 1: N / S")]
        grammar, picture, tree = Grammar("ab", "S", rules), ["ab", "ba"], (2, (0,), (1,))
        told = table_of(grammar, picture)
        text, kept = grammar.told(), copy.deepcopy((picture, told, tree))
        first = self.asked_all(grammar, picture, told, tree)
        asked = copy.deepcopy(first)
        self.assertEqual((grammar.told(), (picture, told, tree)), (text, kept))
        for value in first.values():
            self.spoil(value)
        rules.clear()
        self.assertEqual(self.asked_all(grammar, picture, told, tree), asked)
        self.assertEqual((grammar.told(), (picture, told, tree)), (text, kept))

    def test_what_is_told_stays(self):
        """Nothing that is asked later changes what was told."""
        grammar = read_grammar(HEAD + "S 1: a\nS 1: b\nS 1: S | S\nS 2: S turned 1")
        picture, tree = ["ab", "ba"], (2, (0,), (1,))
        told = table_of(grammar, picture)
        first = self.asked_all(grammar, picture, told, tree)
        kept = copy.deepcopy(first)
        other = read_grammar(HEAD + "S 9: b\nS 8: a\nS 7: S | S\nS 1: S | S\nS 1: a")
        self.asked_all(other, ["bb", "aa"], {("a", "S"): 4}, (3, (4,), (4,)))
        picture[0] = "bb"
        told.clear()
        self.assertEqual(first, kept)


if __name__ == "__main__":
    unittest.main()
