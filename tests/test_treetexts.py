"""Promise 20: quiltlaw.treetexts."""

import inspect
import random
import unittest

from slow import random_grammar, trees_up_to

from quiltlaw import treetexts
from quiltlaw.errors import NoWord, QuiltError
from quiltlaw.texts import read_grammar
from quiltlaw.treetexts import read_tree, shown_tree

# Rule 3 is of one part and 2 of two, as in the document's own tree; 24 rules in all.
GRAMMAR = read_grammar("signs ab\nstart S\nS 1: a\nS 1: b\nS 1: S | S\nS 1: S turned 1\nS 1: S / T\n"
                       + "\n".join(["T 1: a"] * 19))
SMALL = read_grammar("signs a\nstart S\nS 1: a\nS 1: S | S\nS 1: S turned 0")


class InterfaceTest(unittest.TestCase):
    def test_names_and_arguments(self):
        self.assertEqual(list(inspect.signature(treetexts.shown_tree).parameters), ["tree"])
        self.assertEqual(list(inspect.signature(treetexts.read_tree).parameters), ["grammar", "text"])


class ShownTest(unittest.TestCase):
    def test_written(self):
        self.assertEqual(shown_tree((0,)), "0")
        self.assertEqual(shown_tree((3, (0,))), "3 0")
        self.assertEqual(shown_tree((2, (0,), (3, (0,)))), "2 0 3 0")
        self.assertEqual(shown_tree((1, (2, (3,), (4, (5,))), (16, (17,), (8,)))), "1 2 3 4 5 16 17 8")


class ReadTest(unittest.TestCase):
    def refused(self, at, text, grammar=GRAMMAR):
        with self.subTest(text):
            with self.assertRaises(QuiltError) as caught:
                read_tree(grammar, text)
            self.assertIs(type(caught.exception), NoWord)
            self.assertEqual(NoWord.__bases__, (QuiltError,))
            self.assertEqual(caught.exception.at, at)
            self.assertIs(type(caught.exception.at), int)

    def test_read(self):
        self.assertEqual(read_tree(GRAMMAR, "0"), (0,))
        self.assertEqual(read_tree(GRAMMAR, "3 0"), (3, (0,)))
        self.assertEqual(read_tree(GRAMMAR, "2 0 3 0"), (2, (0,), (3, (0,))))
        self.assertEqual(read_tree(GRAMMAR, "2 3 0 1"), (2, (3, (0,)), (1,)))
        self.assertEqual(read_tree(GRAMMAR, "2 2 0 1 2 3 1 23"), (2, (2, (0,), (1,)), (2, (3, (1,)), (23,))))

    def test_each_number_of_a_rule(self):
        for number in range(24):
            if number not in (2, 3, 4):
                self.assertEqual(read_tree(GRAMMAR, str(number)), (number,))

    def test_read_back(self):
        chance = random.Random(20)
        for _ in range(12):
            grammar = random_grammar(chance, many=12)
            for _, _, tree, _ in trees_up_to(grammar, 9)[:200]:
                told = read_tree(grammar, shown_tree(tree))
                self.assertEqual(told, tree)
                self.assertEqual(self.kinds(told), {tuple, int})

    def kinds(self, tree):
        found = {type(tree), type(tree[0])}
        for part in tree[1:]:
            found |= self.kinds(part)
        return found

    def test_names_and_pictures_need_not_fit(self):
        for tree in ((3, (7,)), (2, (7,), (8,)), (4, (3, (2, (0,), (0,))), (0,)), (2, (2, (0,), (0,)), (4, (0,), (7,)))):
            self.assertEqual(read_tree(GRAMMAR, shown_tree(tree)), tree)

    def test_words_that_are_no_number_of_a_rule(self):
        for word in ("", "a", "-", "-1", "+1", "-0", "00", "01", "007", "24", "25", "99", "100", "023", "0\n", "\n", "1.",
                     "1,", "x1", "~", "S", "\u0661", "1_1", "9" * 60):
            self.refused(0, word)
            self.refused(1, "3 " + word)
            self.refused(3, "2 0 3 " + word)
            self.refused(0, word + " 0")

    def test_a_number_that_no_rule_has(self):
        self.refused(0, "3", SMALL)
        self.refused(2, "1 0 3", SMALL)
        self.refused(0, "0", read_grammar("signs a\nstart S"))

    def test_blanks(self):
        self.refused(0, "")
        self.refused(0, " ")
        self.refused(0, " 0")
        self.refused(1, "0 ")
        self.refused(1, "3  0")
        self.refused(2, "3 0 ")
        self.refused(1, "2  0 0")
        self.refused(2, "2 0  0")
        self.refused(2, "2 0 ")

    def test_words_behind_the_whole_tree(self):
        self.refused(1, "0 0")
        self.refused(1, "0 x")
        self.refused(2, "3 0 0 0")
        self.refused(4, "2 0 3 0 3")
        self.refused(1, "7 7 7")

    def test_words_wanting(self):
        self.refused(1, "2")
        self.refused(1, "3")
        self.refused(2, "2 0")
        self.refused(3, "2 0 3")
        self.refused(3, "2 2 0")
        self.refused(5, "3 3 3 3 3")

    def test_the_first_wrong_word(self):
        self.refused(1, "2 x y")
        self.refused(1, "0 1 x")
        self.refused(2, "2 0 x 0")

    def test_sixty_within_one_another(self):
        told = read_tree(SMALL, "2 " * 59 + "0")
        for _ in range(59):
            self.assertEqual((len(told), told[0]), (2, 2))
            told = told[1]
        self.assertEqual(told, (0,))
        self.refused(60, "2 " * 60 + "0", SMALL)
        self.refused(60, "2 " * 61 + "0", SMALL)
        self.refused(60, "2 " * 60 + "x", SMALL)
        self.refused(60, "2 " * 59 + "2", SMALL)
        self.refused(59, "2 " * 58 + "2", SMALL)

    def test_sixty_within_one_another_on_either_side(self):
        self.assertEqual(read_tree(SMALL, "1 0 " * 59 + "0"), self.right_chain(59))
        self.refused(119, "1 0 " * 60 + "0", SMALL)
        self.assertEqual(shown_tree(read_tree(SMALL, "1 " * 59 + "0 " * 59 + "0")), "1 " * 59 + "0 " * 59 + "0")
        self.refused(60, "1 " * 60 + "0 " * 60 + "0", SMALL)
        self.refused(61, "1 0 " + "2 " * 59 + "0", SMALL)

    def right_chain(self, n):
        tree = (0,)
        for _ in range(n):
            tree = (1, (0,), tree)
        return tree

    def test_two_hundred_numbers(self):
        def pair(n):
            if n == 1:
                return "0"
            if n == 2:
                return "2 0"
            half = (n - 1) // 2
            return "1 " + pair(half) + " " + pair(n - 1 - half)

        for n in (1, 2, 7, 199, 200):
            self.assertEqual(len(pair(n).split(" ")), n)
            self.assertEqual(shown_tree(read_tree(SMALL, pair(n))), pair(n))
        self.refused(200, pair(201), SMALL)
        self.refused(200, pair(202), SMALL)
        self.refused(200, pair(400), SMALL)
        self.refused(200, pair(200) + " 0", SMALL)
        self.refused(200, " ".join(pair(201).split(" ")[:200]), SMALL)
        self.refused(199, " ".join(pair(201).split(" ")[:199]), SMALL)
        self.refused(200, " ".join(pair(201).split(" ")[:200]) + " x", SMALL)


if __name__ == "__main__":
    unittest.main()
