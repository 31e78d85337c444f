"""Promises 3 and 24: quiltlaw.best."""

import inspect
import itertools
import random
import unittest

from slow import (GRAMMARS, LARGER, SMALL, first_by_words, large_grammars, made_within, numbers_by_words,
                  random_grammar, seen_by_windows, trees_up_to, within_one_another)

from quiltlaw import best
from quiltlaw.best import first_tree
from quiltlaw.errors import NoName, QuiltError, TooMany
from quiltlaw.tables import least_cost, table_of
from quiltlaw.texts import read_grammar
from quiltlaw.trees import cost_of, laid, numbers_in, tree_fault

# Of S each sign is five turnings deep, but b only four: so the b's of a picture tell how many numbers there are.
MANY_NUMBERS = read_grammar("""signs ab
start S
S 1: S | S
S 1: S / S
S 1: A turned 0
A 1: B turned 0
B 1: C turned 0
C 1: D turned 0
D 1: E turned 0
E 1: a
D 1: b""")
# A column of n cells is put together by E from a row of n - 1 of them, which S and its chain turn twice over.
DEEP = read_grammar("""signs a
start S
S 1: A turned 0
A 1: B turned 0
B 1: C turned 0
C 1: D turned 0
D 1: E turned 0
E 1: S turned 1
E 1: P / X
P 1: S turned 1
X 1: a
E 1: a""")


class InterfaceTest(unittest.TestCase):
    def test_names_and_arguments(self):
        told = inspect.signature(best.first_tree).parameters
        self.assertEqual(list(told), ["grammar", "picture", "name"])
        self.assertIsNone(told["name"].default)


class FirstTreeTest(unittest.TestCase):
    def held(self, grammar, picture, name, asked):
        """The tree is the one that is asked for, and is what promise 3 tells of it."""
        told = first_tree(grammar, picture, name)
        self.assertEqual(told, asked)
        if told is None:
            self.assertIsNone(least_cost(grammar, picture, name))
        else:
            self.assertIsNone(tree_fault(grammar, told))
            self.assertEqual(laid(grammar, told), picture)
            self.assertEqual(cost_of(grammar, told), least_cost(grammar, picture, name))
            self.assertEqual(grammar.rule(told[0]).name, name)

    def test_by_rule_number(self):
        grammar = read_grammar("signs a\nstart S\nS 2: a\nS 1: a\nS 1: a\nA 9: S | S\nA 9: S | S\nA 8: A turned 0")
        self.assertEqual(first_tree(grammar, ["a"]), (1,))
        self.assertEqual(first_tree(grammar, ["aa"], "A"), (3, (1,), (1,)))
        later = read_grammar("signs a\nstart S\nS 3: S turned 0\nS 1: T turned 0\nT 1: a\nS 2: a")
        self.assertEqual(first_tree(later, ["a"]), (1, (2,)))

    def test_number_ahead_of_place(self):
        grammar = read_grammar("signs a\nstart S\nA 1: a\nB 3: A | A\nS 1: B | A\nS 1: A | B\nS 1: A / B\nS 1: B / A")
        self.assertEqual(first_tree(grammar, ["aaa"]), (2, (1, (0,), (0,)), (0,)))
        turned_over = read_grammar("signs a\nstart S\nA 1: a\nB 3: A | A\nS 1: A | B\nS 1: B | A")
        self.assertEqual(first_tree(turned_over, ["aaa"]), (2, (0,), (1, (0,), (0,))))

    def test_by_place(self):
        for text, picture in (("S 1: S | S", ["aaaa"]), ("S 1: S / S", ["a"] * 4)):
            grammar = read_grammar("signs a\nstart S\nS 1: a\n" + text)
            self.assertEqual(first_tree(grammar, picture), (1, (0,), (1, (0,), (1, (0,), (0,)))))
        # Two and two are as dear as any other way, but three ahead of one are made more cheaply.
        grammar = read_grammar("signs ab\nstart S\nS 4: a\nS 4: b\nS 4: S | S\nS 1: T | U\nT 1: a\nU 1: b")
        self.assertEqual(first_tree(grammar, ["aab"]), (2, (0,), (3, (4,), (5,))))
        self.assertEqual(first_tree(grammar, ["aba"]), (2, (3, (4,), (5,)), (0,)))
        self.assertEqual(first_tree(grammar, ["abab"]), (2, (3, (4,), (5,)), (3, (4,), (5,))))

    def test_turnings(self):
        grammar = read_grammar("signs ab\nstart S\nA 1: a\nB 1: b\nC 1: A | B\nS 2: C turned 1\nS 1: C turned 3\n"
                               "S 1: S turned 2\nS 1: C turned 7")
        self.assertEqual(first_tree(grammar, ["b", "a"]), (4, (2, (0,), (1,))))
        self.assertEqual(first_tree(grammar, ["a", "b"]), (6, (2, (0,), (1,))))
        without = read_grammar("signs ab\nstart S\nA 1: a\nB 1: b\nC 1: A | B\nS 2: C turned 1\nS 1: C turned 3\n"
                               "S 1: S turned 2")
        self.assertEqual(first_tree(without, ["a", "b"]), (3, (2, (0,), (1,))))

    def test_in_the_very_words(self):
        for text in GRAMMARS.values():
            grammar = read_grammar(text)
            least = made_within(grammar, 2)
            for picture, name in itertools.product(SMALL, grammar.names()):
                self.held(grammar, picture, name, first_by_words(grammar, least, ("/".join(picture), name)))

    def test_some_grammars_in_the_very_words(self):
        chance = random.Random(24)
        trees = 0
        for _ in range(60):
            grammar = random_grammar(chance, many=chance.randint(2, 16))
            for picture, name in itertools.product(chance.sample(SMALL, 5) + LARGER, grammar.names()):
                asked = first_by_words(grammar, table_of(grammar, picture), ("/".join(picture), name))
                self.held(grammar, picture, name, asked)
                trees += asked is not None
        self.assertGreater(trees, 300)

    def test_a_tree_of_least_cost_among_all(self):
        chance = random.Random(4)
        for grammar in [random_grammar(chance, names="SA", many=7) for _ in range(12)]:
            cheapest = {}
            for name, cost, tree, picture in trees_up_to(grammar, 9):
                key = ("/".join(picture), name)
                if key not in cheapest or cost < cheapest[key][0]:
                    cheapest[key] = (cost, [])
                if cost == cheapest[key][0]:
                    cheapest[key][1].append(tree)
            for (text, name), (cost, trees) in cheapest.items():
                told = first_tree(grammar, text.split("/"), name)
                self.assertIn(told, trees)
                self.assertEqual(told[0], min(tree[0] for tree in trees))

    def test_large(self):
        picture = ["abcdab", "dcbaab", "bbadcc", "cdcdab", "abacad", "dddabc"]
        for grammar in large_grammars():
            told = table_of(grammar, picture)
            for name in grammar.names():
                asked = first_by_words(grammar, told, ("/".join(picture), name))
                if asked is None or (len(numbers_by_words(asked)) <= 200 and within_one_another(asked) <= 60):
                    self.held(grammar, picture, name, asked)
                else:
                    self.assertRaises(TooMany, first_tree, grammar, picture, name)


class NoneTest(unittest.TestCase):
    def test_none(self):
        grammar = read_grammar(GRAMMARS["beside"])
        for picture in (["a"], ["ba"], ["a", "b"], ["z"], ["az"], ["ab", "ab"]):
            self.assertIsNone(first_tree(grammar, picture))
        self.assertIsNone(first_tree(grammar, ["ab"], "A"))
        self.assertIsNone(first_tree(read_grammar(GRAMMARS["no rules"]), ["a"]))

    def test_the_start(self):
        for start, asked in (("S", (0,)), ("T", (1,)), ("U", None)):
            grammar = read_grammar(f"signs ab\nstart {start}\nS 1: a\nT 2: a\nT 2: b")
            self.assertEqual(first_tree(grammar, ["a"]), asked)
            self.assertEqual(first_tree(grammar, ["a"], None), asked)
            self.assertEqual(first_tree(grammar, ["a"], start), asked)

    def test_no_name(self):
        for grammar, picture in ((read_grammar(GRAMMARS["beside"]), ["ab"]), (DEEP, ["a"] * 6),
                                 (read_grammar(GRAMMARS["no rules"]), ["z"])):
            for name in ("T", "AB", "", "a", "s", "ABCDE", "SS"):
                with self.assertRaises(QuiltError) as caught:
                    first_tree(grammar, picture, name)
                self.assertIs(type(caught.exception), NoName)

    def test_what_is_handed_in_stays(self):
        grammar, picture = read_grammar(GRAMMARS["both"]), ["ab", "ba"]
        text = grammar.told()
        told = first_tree(grammar, picture)
        self.assertEqual((grammar.told(), picture), (text, ["ab", "ba"]))
        self.assertEqual(first_tree(grammar, picture), told)
        self.assertEqual(seen_by_windows(laid(grammar, told)), seen_by_windows(picture))


class TooManyTest(unittest.TestCase):
    def too_many(self, grammar, picture, name):
        with self.assertRaises(QuiltError) as caught:
            first_tree(grammar, picture, name)
        self.assertIs(type(caught.exception), TooMany)
        self.assertEqual(TooMany.__bases__, (QuiltError,))

    def whole(self, grammar, picture, name):
        """The first tree, however large."""
        return first_by_words(grammar, table_of(grammar, picture), ("/".join(picture), name))

    def picture_of(self, bees):
        """Five by six cells of a, so many of them b."""
        cells = "b" * bees + "a" * (30 - bees)
        return [cells[k:k + 6] for k in range(0, 30, 6)]

    def test_just_200_numbers(self):
        for bees, numbers in ((30, 179), (10, 199), (9, 200)):
            asked = self.whole(MANY_NUMBERS, self.picture_of(bees), "S")
            self.assertEqual(len(numbers_by_words(asked)), numbers)
            told = first_tree(MANY_NUMBERS, self.picture_of(bees))
            self.assertEqual(told, asked)
            self.assertEqual(len(numbers_in(told)), numbers)

    def test_more_than_200_numbers(self):
        for bees, numbers in ((8, 201), (7, 202), (0, 209)):
            asked = self.whole(MANY_NUMBERS, self.picture_of(bees), "S")
            self.assertEqual(len(numbers_by_words(asked)), numbers)
            self.assertLessEqual(within_one_another(asked), 60)
            self.too_many(MANY_NUMBERS, self.picture_of(bees), "S")

    def test_just_60_within_one_another(self):
        for picture, name, depth in ((["a"] * 6, "E", 60), (["a"] * 5, "P", 59), (["aaaaa"], "S", 58)):
            asked = self.whole(DEEP, picture, name)
            self.assertEqual(within_one_another(asked), depth)
            self.assertEqual(first_tree(DEEP, picture, name), asked)

    def test_more_than_60_within_one_another(self):
        for picture, name, depth in ((["a"] * 6, "D", 61), (["a"] * 6, "C", 62), (["a"] * 6, "S", 65),
                                     (["aaaaaa"], "S", 71)):
            asked = self.whole(DEEP, picture, name)
            self.assertEqual(within_one_another(asked), depth)
            self.assertLessEqual(len(numbers_by_words(asked)), 200)
            self.too_many(DEEP, picture, name)

    def test_the_cost_is_told_all_the_same(self):
        self.assertEqual(least_cost(DEEP, ["aaaaaa"]), 76)
        self.assertEqual(least_cost(MANY_NUMBERS, self.picture_of(0)), 209)


if __name__ == "__main__":
    unittest.main()
