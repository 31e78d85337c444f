"""Promises 2, 17, 18 and 19: quiltlaw.trees."""

import inspect
import random
import unittest

from slow import numbers_by_words, random_grammar, trees_up_to, within_one_another

from quiltlaw import trees
from quiltlaw.errors import NoTree, QuiltError
from quiltlaw.texts import read_grammar
from quiltlaw.trees import cost_of, laid, numbers_in, tree_fault

SIXTY = 10 ** 60 - 1
GRAMMAR = read_grammar("""signs ab
start S
A 1: a
B 2: b
S 3: A | B
S 4: S / S
S 5: S turned 1
B 6: B | B
A 7: S turned 0
C 8: A / B""")
AB = (2, (0,), (1,))
OVER = (3, AB, AB)


def chain(n, bottom=AB):
    """A tree with n turnings above another one."""
    tree = bottom
    for _ in range(n):
        tree = (4, tree)
    return tree


class InterfaceTest(unittest.TestCase):
    def test_names_and_arguments(self):
        asked = {"tree_fault": ["grammar", "tree"], "laid": ["grammar", "tree"], "cost_of": ["grammar", "tree"],
                 "numbers_in": ["tree"]}
        for name, arguments in asked.items():
            self.assertEqual(list(inspect.signature(getattr(trees, name)).parameters), arguments)


class TreeTest(unittest.TestCase):
    def faulty(self, why, tree, grammar=GRAMMAR):
        with self.subTest(tree=tree):
            told = tree_fault(grammar, tree)
            self.assertEqual(told, why)
            self.assertEqual((type(told), type(told[1])), (tuple, tuple))
            for function in (laid, cost_of):
                with self.assertRaises(QuiltError) as caught:
                    function(grammar, tree)
                self.assertIs(type(caught.exception), NoTree)
                self.assertEqual(NoTree.__bases__, (QuiltError,))
                self.assertEqual(caught.exception.why, why)
                self.assertIs(type(caught.exception.why), tuple)

    def faultless(self, tree, picture, cost, grammar=GRAMMAR):
        with self.subTest(tree=tree):
            self.assertIsNone(tree_fault(grammar, tree))
            self.assertEqual(laid(grammar, tree), picture)
            self.assertEqual(cost_of(grammar, tree), cost)
            self.assertIs(type(cost_of(grammar, tree)), int)


class FaultlessTest(TreeTest):
    def test_each_kind_of_rule(self):
        self.faultless((0,), ["a"], 1)
        self.faultless((1,), ["b"], 2)
        self.faultless(AB, ["ab"], 6)
        self.faultless(OVER, ["ab", "ab"], 16)
        self.faultless((4, AB), ["a", "b"], 11)
        self.faultless((4, (4, AB)), ["ba"], 16)
        self.faultless((5, (1,), (5, (1,), (1,))), ["bbb"], 18)
        self.faultless((6, AB), ["ab"], 13)
        self.faultless((7, (0,), (1,)), ["a", "b"], 11)
        self.faultless((2, (6, AB), (1,)), ["abb"], 18)

    def test_any_name_may_stand_at_the_top(self):
        for tree in ((0,), (1,), AB, (7, (0,), (1,))):
            self.assertIsNone(tree_fault(GRAMMAR, tree))

    def test_sixty_within_one_another(self):
        tree = chain(58)
        self.assertEqual((within_one_another(tree), len(numbers_by_words(tree))), (60, 61))
        self.faultless(tree, ["ba"], 58 * 5 + 6)
        self.faulty(("number", (0,) * 58 + (1,)), chain(58, (2, (0,), (8,))))

    def test_two_hundred_numbers(self):
        grammar = read_grammar("signs a\nstart S\nS 1: a\nS 1: S | S\nS 1: S / S\nS 1: S turned 3")
        tree = (0,)
        for k in range(5):
            tree = (1, (3, (3, (3, (3, (0,))))), tree)
        self.faultless(tree, ["aaaaaa"], 31, grammar)
        tall = tree
        for k in range(5):
            tall = (2, tree, tall)
        while len(numbers_by_words(tall)) < 200:
            tall = (3, (3, tall)) if len(numbers_by_words(tall)) < 199 else (3, tall)
        self.assertEqual(len(numbers_by_words(tall)), 200)
        self.assertLessEqual(within_one_another(tall), 60)
        self.faultless(tall, ["aaaaaa"] * 6, 200, grammar)
        self.faulty(("fit", ()), (1, tree, tall[1]), grammar)

    def test_trees_found_by_going_through_all(self):
        chance = random.Random(17)
        for _ in range(12):
            grammar = random_grammar(chance, many=7)
            for name, cost, tree, picture in trees_up_to(grammar, 9)[:200]:
                self.faultless(tree, picture, cost, grammar)
                self.assertEqual(grammar.rule(tree[0]).name, name)


class FormFaultTest(TreeTest):
    def test_number(self):
        for number in (8, 9, 24, -1, -8, SIXTY, -SIXTY):
            self.faulty(("number", ()), (number,))
            self.faulty(("number", ()), (number, (0,)))
            self.faulty(("number", ()), (number, (number,), (number,)))
            self.faulty(("number", (0,)), (2, (number,), (1,)))
            self.faulty(("number", (1,)), (2, (0,), (number,)))
            self.faulty(("number", (0, 1, 0, 0)), (3, (3, AB, (4, (2, (number,), (1,)))), AB))
            self.faulty(("number", (1, 0, 1)), (3, AB, (4, (2, (0,), (number,)))))
            self.faulty(("number", (0,)), (4, (number, (0,), (0,))))

    def test_no_rules_at_all(self):
        empty = read_grammar("signs a\nstart S")
        for number in (0, 1, -1):
            self.faulty(("number", ()), (number,), empty)

    def test_parts(self):
        self.faulty(("parts", ()), (0, (0,)))
        self.faulty(("parts", ()), (0, (0,), (0,)))
        self.faulty(("parts", ()), (2,))
        self.faulty(("parts", ()), (2, (0,)))
        self.faulty(("parts", ()), (3,))
        self.faulty(("parts", ()), (3, AB))
        self.faulty(("parts", ()), (4,))
        self.faulty(("parts", ()), (4, AB, AB))
        self.faulty(("parts", (0,)), (2, (0, (0,)), (1,)))
        self.faulty(("parts", (1,)), (2, (0,), (1, (1,))))
        self.faulty(("parts", (1, 0)), (3, AB, (4, (2, (0,)))))
        self.faulty(("parts", (0, 0, 1)), (3, (4, (2, (0,), (1, (1,), (1,)))), AB))

    def test_name(self):
        self.faulty(("name", (0,)), (2, (1,), (1,)))
        self.faulty(("name", (1,)), (2, (0,), (0,)))
        self.faulty(("name", (0,)), (4, (0,)))
        self.faulty(("name", (0,)), (6, (0,)))
        self.faulty(("name", (1,)), (3, AB, (0,)))
        self.faulty(("name", (1, 0, 1)), (3, AB, (4, (2, (0,), AB))))
        self.faulty(("name", (0, 0)), (3, (4, (7, (0,), (1,))), AB))

    def test_first_of_three_at_one_place(self):
        self.faulty(("number", (0,)), (4, (9, (0,), (0,), )))
        self.faulty(("parts", (0,)), (4, (0, (0,))))
        self.faulty(("parts", (1,)), (2, (0,), (3, AB)))

    def test_each_ahead_of_its_parts(self):
        self.faulty(("parts", ()), (4, (9,), (9,)))
        self.faulty(("parts", ()), (0, (9,)))
        self.faulty(("parts", ()), (2, (9,)))
        self.faulty(("name", (0,)), (4, (7, (9,), (9,))))
        self.faulty(("name", (1,)), (2, (0,), (2, (1,), (9,))))
        self.faulty(("parts", (0,)), (3, (4, (9,), (9,)), AB))

    def test_the_first_part_whole_ahead_of_the_second(self):
        self.faulty(("number", (0,)), (2, (9,), (9,)))
        self.faulty(("name", (0,)), (2, (1,), (9,)))
        self.faulty(("name", (0, 0, 1)), (3, (4, (2, (0,), (0,))), (9,)))
        self.faulty(("parts", (0, 1)), (3, (2, (0,), (1, (0,))), (0,)))
        self.faulty(("number", (0, 1, 1)), (3, (3, AB, (2, (0,), (-1,))), (2, (-1,), (1,))))


class FitFaultTest(TreeTest):
    def test_at_the_top(self):
        self.faulty(("fit", ()), (3, AB, (4, AB)))
        self.faulty(("fit", ()), (2, (6, OVER), (1,)))
        self.faulty(("fit", ()), (7, (6, AB), (1,)))

    def test_deep_within(self):
        wrong = (3, AB, (4, AB))
        self.faulty(("fit", (0,)), (4, wrong))
        self.faulty(("fit", (0, 0)), (4, (4, wrong)))
        self.faulty(("fit", (1,)), (3, AB, wrong))
        self.faulty(("fit", (0, 0, 0)), (3, (2, (6, wrong), (1,)), AB))
        self.faulty(("fit", (1, 0)), (3, AB, (4, wrong)))
        self.faulty(("fit", (0,) * 40), chain(40, wrong))

    def test_seven_together(self):
        three, four = (3, AB, (3, AB, AB)), (3, AB, (3, AB, (3, AB, AB)))
        self.assertIsNone(tree_fault(GRAMMAR, (3, three, three)))
        self.faulty(("fit", ()), (3, three, four))
        self.faulty(("fit", (0,)), (3, (3, four, four), (3, four, four)))
        bees = (1,)
        for _ in range(5):
            bees = (5, (1,), bees)
        self.faultless(bees, ["bbbbbb"], 6 * 2 + 5 * 6)
        self.faulty(("fit", ()), (5, (1,), bees))
        self.faulty(("fit", ()), (2, (0,), bees))

    def test_each_behind_its_parts_the_first_part_whole_ahead(self):
        wrong = (3, AB, (4, AB))
        self.faulty(("fit", (0,)), (3, wrong, wrong))
        self.faulty(("fit", (0, 0)), (3, (4, wrong), wrong))
        self.faulty(("fit", (0, 1)), (3, (3, AB, wrong), (4, wrong)))
        self.faulty(("fit", (0, 0)), (3, (3, wrong, wrong), wrong))
        self.faulty(("fit", (1, 1, 0)), (3, AB, (3, (4, AB), (4, wrong))))

    def test_only_where_there_is_no_other_fault_in_the_whole_tree(self):
        wrong = (3, AB, (4, AB))
        self.faulty(("number", (1,)), (3, wrong, (9,)))
        self.faulty(("parts", (1,)), (3, wrong, (4,)))
        self.faulty(("name", (1,)), (3, wrong, (0,)))
        self.faulty(("name", (1, 0, 0)), (3, wrong, (4, (2, (1,), (1,)))))
        self.faulty(("number", (0, 1, 0, 1)), (3, (3, wrong, (4, (2, (0,), (9,)))), wrong))


class NumbersTest(unittest.TestCase):
    def test_in_order(self):
        self.assertEqual(numbers_in((0,)), [0])
        self.assertEqual(numbers_in((3, (0,))), [3, 0])
        self.assertEqual(numbers_in((2, (0,), (3, (0,)))), [2, 0, 3, 0])
        self.assertEqual(numbers_in((1, (2, (3,), (4, (5,))), (6, (7,), (8,)))), [1, 2, 3, 4, 5, 6, 7, 8])
        self.assertEqual(numbers_in((-1, (SIXTY,))), [-1, SIXTY])
        self.assertEqual(numbers_in(chain(58)), [4] * 58 + [2, 0, 1])

    def test_the_list_is_the_askers_own(self):
        tree = (2, (0,), (3, (0,)))
        told = numbers_in(tree)
        self.assertIs(type(told), list)
        told[0] = 9
        told.append(9)
        self.assertEqual((tree, numbers_in(tree)), ((2, (0,), (3, (0,))), [2, 0, 3, 0]))


class OwnListsTest(unittest.TestCase):
    def test_a_laid_picture_is_the_askers_own(self):
        text = GRAMMAR.told()
        for tree in ((0,), AB, OVER, (6, AB)):
            told = laid(GRAMMAR, tree)
            asked = list(told)
            self.assertIs(type(told), list)
            told[0] = "spoiled"
            told.append("spoiled")
            self.assertEqual(laid(GRAMMAR, tree), asked)
        self.assertEqual(GRAMMAR.told(), text)


if __name__ == "__main__":
    unittest.main()
