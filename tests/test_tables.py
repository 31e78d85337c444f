"""Promises 2, 3 and 21 to 23: quiltlaw.tables."""

import copy
import inspect
import itertools
import random
import unittest

from slow import (GRAMMARS, LARGER, SMALL, coming, large_grammars, made_within, random_grammar, sample,
                  seen_by_windows, trees_up_to)

from quiltlaw import tables
from quiltlaw.errors import NoName, QuiltError
from quiltlaw.grammars import Grammar
from quiltlaw.tables import least_cost, table_of
from quiltlaw.texts import read_grammar

class InterfaceTest(unittest.TestCase):
    def test_names_and_arguments(self):
        told = inspect.signature(tables.least_cost).parameters
        self.assertEqual(list(told), ["grammar", "picture", "name"])
        self.assertIsNone(told["name"].default)
        self.assertEqual(list(inspect.signature(tables.table_of).parameters), ["grammar", "picture"])


class TableTest(unittest.TestCase):
    def held(self, grammar, pictures, least):
        """Each picture's table is what is reckoned slowly, for what is seen in it."""
        for picture in pictures:
            seen = seen_by_windows(picture)
            asked = {key: cost for key, cost in least.items() if key[0] in seen}
            told = table_of(grammar, picture)
            with self.subTest(grammar.told(), picture=picture):
                self.assertEqual(told, asked)
                self.assertIs(type(told), dict)
                self.assertTrue(all(type(key) is tuple for key in told))
                self.assertTrue(all(type(cost) is int for cost in told.values()))

    def comes_from_itself(self, grammar, picture, told):
        """Promise 23: each key is there just where some cost comes for it, with the least."""
        for text, name in itertools.product(seen_by_windows(picture), grammar.names()):
            costs = [cost for cost, _, _ in coming(grammar, told, (text, name))]
            self.assertEqual(told.get((text, name)), min(costs, default=None))
        seen = seen_by_windows(picture)
        self.assertTrue(all(text in seen and name in grammar.names() for text, name in told))

    def test_by_hand(self):
        grammar = read_grammar(GRAMMARS["beside"])
        self.assertEqual(table_of(grammar, ["ab"]), {("a", "A"): 1, ("b", "B"): 2, ("ab", "S"): 6})
        self.assertEqual(table_of(grammar, ["b", "a"]), {("a", "A"): 1, ("b", "B"): 2, ("ab", "S"): 6})
        self.assertEqual(table_of(grammar, ["bb"]), {("b", "B"): 2})
        self.assertEqual(table_of(grammar, ["abab"]),
                         {("a", "A"): 1, ("b", "B"): 2, ("ab", "S"): 6, ("abab", "S"): 16})

    def test_each_picture_against_the_slow_reckoning(self):
        for text in GRAMMARS.values():
            grammar = read_grammar(text)
            self.held(grammar, SMALL, made_within(grammar, 2))

    def test_pictures_of_three_against_the_slow_reckoning(self):
        for name in ("no rules", "cells alone", "beside", "above", "turnings", "a ring of turnings",
                     "alike but for the cost", "names without a rule"):
            grammar = read_grammar(GRAMMARS[name])
            self.held(grammar, LARGER, made_within(grammar, 3))

    def test_some_grammars_against_the_slow_reckoning(self):
        chance = random.Random(22)
        entries = 0
        for _ in range(60):
            grammar = random_grammar(chance, many=chance.randint(1, 14))
            least = made_within(grammar, 2)
            self.held(grammar, chance.sample(SMALL, 6), least)
            entries += len(least)
        self.assertGreater(entries, 1000)

    def test_each_cost_comes_from_the_table_itself(self):
        chance = random.Random(23)
        grammars = [read_grammar(text) for text in GRAMMARS.values()]
        grammars += [random_grammar(chance, many=chance.randint(6, 22)) for _ in range(25)]
        for grammar, picture in itertools.product(grammars, LARGER + [["abba"], ["abab", "bbaa"]]):
            self.comes_from_itself(grammar, picture, table_of(grammar, picture))

    def test_no_tree_costs_less(self):
        """All trees up to a cost, laid out one by one."""
        chance = random.Random(3)
        grammars = [read_grammar(GRAMMARS[name]) for name in ("both", "parts of its own name", "turnings")]
        grammars += [random_grammar(chance, names="SA", many=7) for _ in range(10)]
        for grammar in grammars:
            most, least = 9, {}
            for name, cost, _, picture in trees_up_to(grammar, most):
                key = ("/".join(picture), name)
                least[key] = min(cost, least.get(key, cost))
            for picture in SMALL + LARGER:
                told = table_of(grammar, picture)
                seen = seen_by_windows(picture)
                self.assertEqual({key: cost for key, cost in told.items() if cost <= most},
                                 {key: cost for key, cost in least.items() if key[0] in seen})

    def test_signs_that_the_grammar_does_not_have(self):
        grammar = read_grammar(GRAMMARS["parts of its own name"])
        self.assertEqual(table_of(grammar, ["z"]), {})
        self.assertEqual(table_of(grammar, ["az"]), {("a", "S"): 1})
        self.assertEqual(table_of(grammar, ["azb", "bza"]), table_of(grammar, ["a", "b"]))
        self.assertEqual(table_of(grammar, ["yzx", "qrs"]), {})

    def test_what_is_seen_in_two_pictures(self):
        for text in GRAMMARS.values():
            grammar = read_grammar(text)
            for one, other in itertools.combinations(LARGER, 2):
                seen = seen_by_windows(one) & seen_by_windows(other)
                by_one, by_other = table_of(grammar, one), table_of(grammar, other)
                for key in itertools.product(seen, grammar.names()):
                    self.assertEqual(by_one.get(key), by_other.get(key))

    def test_turned_pictures_have_one_table(self):
        grammar = read_grammar(GRAMMARS["a ring of turnings"])
        self.assertEqual(table_of(grammar, ["aba", "bba"]), table_of(grammar, ["ba", "bb", "aa"]))


class OwnTest(unittest.TestCase):
    def test_the_dict_is_the_askers_own(self):
        grammar = read_grammar(GRAMMARS["both"])
        text, picture = grammar.told(), ["ab", "ba"]
        told = table_of(grammar, picture)
        asked = copy.deepcopy(told)
        for key in list(told):
            told[key] = -1
        told[("q", "Q")] = 7
        self.assertEqual(table_of(grammar, picture), asked)
        told.clear()
        self.assertEqual(table_of(grammar, picture), asked)
        self.assertEqual(least_cost(grammar, picture), asked[("ab/ba", "S")])
        self.assertEqual((grammar.told(), picture), (text, ["ab", "ba"]))

    def test_the_picture_stays(self):
        for text, picture in itertools.product(GRAMMARS.values(), LARGER):
            kept = list(picture)
            table_of(read_grammar(text), picture)
            least_cost(read_grammar(text), picture)
            self.assertEqual(picture, kept)

    def test_the_picture_changed_later(self):
        grammar, picture = read_grammar(GRAMMARS["both"]), ["ab", "ba"]
        told = table_of(grammar, picture)
        asked = dict(told)
        picture[0] = "bb"
        table_of(grammar, picture)
        self.assertEqual(told, asked)


class LeastCostTest(unittest.TestCase):
    def test_by_each_name(self):
        for text in GRAMMARS.values():
            grammar = read_grammar(text)
            for picture in SMALL + LARGER[:3]:
                told = table_of(grammar, picture)
                for name in grammar.names():
                    asked = told.get(("/".join(picture), name))
                    self.assertEqual(least_cost(grammar, picture, name), asked)
                    self.assertIn(type(least_cost(grammar, picture, name)), (int, type(None)))

    def test_the_start(self):
        text = "signs ab\nstart {}\nS 1: a\nT 2: a\nT 2: b"
        for start, asked in (("S", [1, None]), ("T", [2, 2]), ("U", [None, None])):
            grammar = read_grammar(text.format(start))
            self.assertEqual([least_cost(grammar, [sign]) for sign in "ab"], asked)
            self.assertEqual([least_cost(grammar, [sign], None) for sign in "ab"], asked)
            self.assertEqual([least_cost(grammar, [sign], start) for sign in "ab"], asked)

    def test_none(self):
        grammar = read_grammar(GRAMMARS["beside"])
        for picture in (["a"], ["ba"], ["a", "b"], ["aba"], ["z"], ["ab", "ab"]):
            self.assertIsNone(least_cost(grammar, picture))
        self.assertIsNone(least_cost(grammar, ["ab"], "A"))
        self.assertIsNone(least_cost(read_grammar(GRAMMARS["no rules"]), ["a"]))
        self.assertIsNone(least_cost(read_grammar(GRAMMARS["names without a rule"]), ["a"], "N"))

    def test_no_name(self):
        grammar = read_grammar(GRAMMARS["beside"])
        for name in ("T", "AB", "", "a", "s", "ABCDE", "SS"):
            with self.assertRaises(QuiltError) as caught:
                least_cost(grammar, ["ab"], name)
            self.assertIs(type(caught.exception), NoName)


class LargeTest(unittest.TestCase):
    """Six by six, 24 rules, eight names."""

    def test_tables(self):
        chance = random.Random(66)
        pictures = [["".join(chance.choice("abcd") for _ in range(6)) for _ in range(6)], sample(6, 6),
                    ["aaaaaa"] * 6, ["abcabc", "bcabca"] * 3]
        for grammar in large_grammars():
            self.assertEqual((grammar.many(), len(grammar.names())), (24, 8))
            for picture in pictures:
                told = table_of(grammar, picture)
                self.assertEqual(least_cost(grammar, picture), told.get(("/".join(picture), "S")))

    def test_a_large_one_comes_from_itself(self):
        grammar, picture = large_grammars()[1], ["abcdab", "dcbaab", "bbadcc", "cdcdab", "abacad", "dddabc"]
        told = table_of(grammar, picture)
        self.assertIsNotNone(told.get(("/".join(picture), "S")))
        for key in itertools.product(seen_by_windows(picture), grammar.names()):
            costs = [cost for cost, _, _ in coming(grammar, told, key)]
            self.assertEqual(told.get(key), min(costs, default=None))


class ManyTest(unittest.TestCase):
    def test_grammars_and_pictures_do_not_meet(self):
        """Nothing of one asking stays for the next."""
        one, other = read_grammar(GRAMMARS["beside"]), read_grammar(GRAMMARS["above"])
        before = table_of(one, ["ab", "ab"])
        table_of(other, ["ab", "ab"])
        self.assertEqual(table_of(one, ["ab", "ab"]), before)
        self.assertEqual(table_of(Grammar("ab", "S", one.rules()), ["ab", "ab"]), before)


if __name__ == "__main__":
    unittest.main()
