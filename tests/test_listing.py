"""Promises 2, 3, 26 and 27: quiltlaw.listing."""

import inspect
import itertools
import random
import unittest

from slow import GRAMMARS, large_grammars, random_grammar, rows_by_words

from quiltlaw import listing
from quiltlaw.counts import count_trees, number_of, tree_at
from quiltlaw.errors import NoName, QuiltError, TooMany
from quiltlaw.listing import trees_of
from quiltlaw.texts import read_grammar
from quiltlaw.trees import tree_fault

HEAD = "signs a\nstart S\n"
# Five times six times ten trees of one cell at cost 3.
THREE_HUNDRED = ["S 1: A turned 0"] * 5 + ["A 1: B turned 0"] * 6 + ["B 1: a"] * 10


class InterfaceTest(unittest.TestCase):
    def test_names_and_arguments(self):
        self.assertEqual(list(inspect.signature(listing.trees_of).parameters),
                         ["grammar", "name", "rows", "columns", "cost"])


class ListingTest(unittest.TestCase):
    def refused(self, error, *handed):
        with self.subTest(handed=handed[1:]):
            with self.assertRaises(QuiltError) as caught:
                trees_of(*handed)
            self.assertIs(type(caught.exception), error)
            self.assertEqual(error.__bases__, (QuiltError,))

    def held(self, grammar, most, sizes):
        rows = rows_by_words(grammar, most)
        for name, size, cost in itertools.product(grammar.names(), sizes, range(1, most + 1)):
            asked = rows.get((name, *size, cost), [])
            if len(asked) > 300:
                self.refused(TooMany, grammar, name, *size, cost)
                continue
            with self.subTest(grammar=grammar.told(), row=(name, *size, cost)):
                told = trees_of(grammar, name, *size, cost)
                self.assertEqual(told, asked)
                self.assertIs(type(told), list)

    def test_each_grammar_in_the_very_words(self):
        sizes = list(itertools.product(range(1, 4), repeat=2))
        for text in GRAMMARS.values():
            self.held(read_grammar(text), 9, sizes)

    def test_some_grammars_in_the_very_words(self):
        chance = random.Random(29)
        for _ in range(60):
            grammar = random_grammar(chance, names=chance.choice(["S", "SA", "SAB"]), many=chance.randint(1, 6))
            self.held(grammar, 7, [(1, 1), (1, 2), (2, 1), (2, 2), (1, 3), (3, 1), (6, 6)])

    def test_against_the_others(self):
        chance = random.Random(30)
        grammars = [*large_grammars(), *[random_grammar(chance, "abcd", "SABCDEFG", 20) for _ in range(8)]]
        listed = 0
        for grammar, size, cost in itertools.product(grammars, ((1, 1), (1, 2), (2, 2), (1, 5), (4, 2)), (9, 15, 16)):
            for name in grammar.names():
                many = count_trees(grammar, name, *size, cost)
                if many > 300:
                    self.refused(TooMany, grammar, name, *size, cost)
                    continue
                told = trees_of(grammar, name, *size, cost)
                self.assertEqual(len(told), many)
                self.assertEqual(len(set(told)), many)
                for k in range(0, many, 1 + many // 5):
                    self.assertIsNone(tree_fault(grammar, told[k]))
                    self.assertEqual(tree_at(grammar, name, *size, cost, k), told[k])
                    self.assertEqual(number_of(grammar, told[k]), k)
                listed += many
        self.assertGreater(listed, 500)

    def test_by_hand(self):
        grammar = read_grammar("signs ab\nstart S\nS 1: a\nS 1: b\nS 1: S | S\nS 2: S turned 2")
        self.assertEqual(trees_of(grammar, "S", 1, 1, 1), [(0,), (1,)])
        self.assertEqual(trees_of(grammar, "S", 1, 1, 3), [(3, (0,)), (3, (1,))])
        self.assertEqual(trees_of(grammar, "S", 1, 1, 2), [])
        self.assertEqual(trees_of(grammar, "S", 1, 2, 5)[:3],
                         [(2, (0,), (3, (0,))), (2, (0,), (3, (1,))), (2, (1,), (3, (0,)))])
        self.assertEqual(trees_of(grammar, "S", 6, 6, 16), [])
        self.assertEqual(trees_of(grammar, "S", 1, 7, 13), [])
        self.assertEqual(trees_of(grammar, "S", 1, 1, 0), [])

    def test_just_300(self):
        grammar = read_grammar(HEAD + "\n".join(THREE_HUNDRED))
        told = trees_of(grammar, "S", 1, 1, 3)
        self.assertEqual(told, [(s, (a, (b,))) for s in range(5) for a in range(5, 11) for b in range(11, 21)])
        self.assertEqual(len(told), 300)
        beside = read_grammar(HEAD + "\n".join(["S 1: A | B"] + ["A 1: C turned 3"] * 3 + ["C 1: a"] * 10
                                               + ["B 1: a"] * 10))
        self.assertEqual(len(trees_of(beside, "S", 1, 2, 4)), 300)

    def test_301(self):
        grammar = read_grammar(HEAD + "\n".join(THREE_HUNDRED + ["S 3: a"]))
        self.assertEqual(count_trees(grammar, "S", 1, 1, 3), 301)
        self.refused(TooMany, grammar, "S", 1, 1, 3)
        self.refused(TooMany, read_grammar(HEAD + "\n".join(["S 3: a"] + THREE_HUNDRED)), "S", 1, 1, 3)

    def test_very_many(self):
        grammar = read_grammar(HEAD + "\n".join(["S 1: a"] * 22 + ["S 1: S | S", "S 1: S / S"]))
        for size, cost in (((1, 6), 11), ((6, 1), 11), ((2, 4), 15), ((2, 2), 7)):
            self.refused(TooMany, grammar, "S", *size, cost)
        self.assertEqual(len(trees_of(grammar, "S", 1, 1, 1)), 22)
        self.assertEqual(trees_of(grammar, "S", 1, 6, 12), [])

    def test_very_many_beside_none(self):
        """A row of parts is of no matter where the other part has no tree."""
        rows = ["G 1: a"] * 10 + ["G 1: G | G"] * 8 + ["S 1: G | N", "S 1: N | G", "S 1: G / N", "S 1: N turned 1"]
        grammar = read_grammar(HEAD + "\n".join(rows))
        self.assertGreater(count_trees(grammar, "G", 1, 6, 11), 10 ** 9)
        for size, cost in itertools.product(((1, 6), (2, 4), (2, 6)), (11, 12, 16)):
            self.assertEqual(trees_of(grammar, "S", *size, cost), [])

    def test_rings(self):
        grammar = read_grammar(HEAD + "S 1: T turned 1\nT 1: S turned 3\nT 1: a\nS 2: S turned 5")
        self.assertEqual(trees_of(grammar, "S", 1, 1, 4), [(0, (1, (0, (2,)))), (3, (0, (2,)))])
        self.assertEqual(len(trees_of(grammar, "S", 1, 1, 16)), 128)
        nowhere = read_grammar(HEAD + "S 1: T turned 0\nT 1: S turned 0")
        self.assertEqual(trees_of(nowhere, "S", 1, 1, 16), [])

    def test_names_without_a_rule(self):
        self.assertEqual(trees_of(read_grammar(GRAMMARS["names without a rule"]), "N", 1, 1, 1), [])
        self.assertEqual(trees_of(read_grammar(GRAMMARS["no rules"]), "S", 1, 1, 1), [])

    def test_no_name_ahead_of_all_else(self):
        grammar = read_grammar(HEAD + "\n".join(THREE_HUNDRED + ["S 3: a"]))
        for name, size in itertools.product(("T", "AB", "", "a"), ((1, 1), (6, 6), (7, 7))):
            self.refused(NoName, grammar, name, *size, 3)

    def test_the_list_is_the_askers_own(self):
        grammar = read_grammar(GRAMMARS["both"])
        text = grammar.told()
        told = trees_of(grammar, "A", 1, 2, 5)
        asked = list(told)
        self.assertTrue(asked)
        told.clear()
        self.assertEqual(trees_of(grammar, "A", 1, 2, 5), asked)
        self.assertEqual(grammar.told(), text)


if __name__ == "__main__":
    unittest.main()
