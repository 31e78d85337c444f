"""Promises 2, 3 and 28: quiltlaw.sizes."""

import inspect
import itertools
import random
import unittest

from slow import GRAMMARS, large_grammars, made_within, pictures_of_size, random_grammar

from quiltlaw import sizes
from quiltlaw.errors import NoName, QuiltError, TooMany
from quiltlaw.sizes import pictures_of
from quiltlaw.tables import least_cost
from quiltlaw.texts import read_grammar

CELLS = {many: f"signs {'abcd'[:many]}\nstart S\n" + "\n".join(f"S {k + 1}: {sign}" for k, sign in enumerate("abcd"[:many]))
         for many in (1, 2, 3, 4)}
ALL = {many: read_grammar(text + "\nS 1: S | S\nS 1: S / S\nA 1: A | A") for many, text in CELLS.items()}
# Of each number of signs the sizes with the most pictures that are told, and those next to them that are not.
TOLD = {1: [(6, 6), (1, 6), (6, 1), (5, 6)], 2: [(2, 4), (4, 2), (1, 6), (6, 1), (2, 3)], 3: [(1, 5), (5, 1), (2, 2)],
        4: [(2, 2), (1, 4), (4, 1)]}
REFUSED = {2: [(3, 3), (2, 5), (5, 2), (6, 6)], 3: [(1, 6), (6, 1), (2, 3), (3, 2), (6, 6)],
           4: [(1, 5), (5, 1), (2, 3), (3, 2), (6, 6)]}


class InterfaceTest(unittest.TestCase):
    def test_names_and_arguments(self):
        self.assertEqual(list(inspect.signature(sizes.pictures_of).parameters), ["grammar", "name", "rows", "columns"])


class SizesTest(unittest.TestCase):
    def refused(self, error, *handed):
        with self.subTest(handed=handed[1:]):
            with self.assertRaises(QuiltError) as caught:
                pictures_of(*handed)
            self.assertIs(type(caught.exception), error)
            self.assertEqual(error.__bases__, (QuiltError,))

    def held(self, grammar, name, size, asked):
        with self.subTest(grammar=grammar.told(), name=name, size=size):
            told = pictures_of(grammar, name, *size)
            self.assertEqual(told, asked)
            self.assertEqual(told, sorted(told))
            self.assertIs(type(told), list)
            for pair in told:
                self.assertEqual([type(value) for value in (pair, *pair)], [tuple, list, int])
                self.assertEqual((len(pair[0]), len(pair[0][0])), size)

    def by_least_cost(self, grammar, name, size):
        costs = [(picture, least_cost(grammar, picture, name)) for picture in pictures_of_size(grammar.signs, *size)]
        return [pair for pair in costs if pair[1] is not None]

    def test_by_hand(self):
        grammar = read_grammar(GRAMMARS["beside"])
        self.held(grammar, "S", (1, 2), [(["ab"], 6)])
        self.held(grammar, "S", (1, 4), [(["abab"], 16)])
        self.held(grammar, "S", (1, 6), [(["ababab"], 26)])
        self.held(grammar, "S", (1, 1), [])
        self.held(grammar, "S", (2, 2), [])
        self.held(grammar, "A", (1, 1), [(["a"], 1)])

    def test_against_least_cost(self):
        grammars = [read_grammar(text) for text in GRAMMARS.values()]
        chance = random.Random(28)
        grammars += [random_grammar(chance, chance.choice(["ab", "ba", "cab"]), many=chance.randint(2, 12))
                     for _ in range(6)]
        found = 0
        for grammar, size in itertools.product(grammars, [(1, 1), (1, 2), (2, 1), (2, 2), (1, 3), (3, 1)]):
            for name in grammar.names():
                asked = self.by_least_cost(grammar, name, size)
                self.held(grammar, name, size, asked)
                found += len(asked)
        self.assertGreater(found, 200)

    def test_larger_against_least_cost(self):
        for text, size in itertools.product(("a ring of turnings", "dear cells, cheap turnings"),
                                            [(1, 4), (4, 1), (2, 3), (3, 2), (1, 6)]):
            grammar = read_grammar(GRAMMARS[text])
            self.held(grammar, "S", size, self.by_least_cost(grammar, "S", size))

    def test_against_the_slow_reckoning(self):
        for text in GRAMMARS.values():
            grammar = read_grammar(text)
            least = made_within(grammar, 2)
            for name, size in itertools.product(grammar.names(), [(1, 1), (1, 2), (2, 1), (2, 2)]):
                pictures = pictures_of_size("ab", *size)
                costs = [(picture, least.get(("/".join(picture), name))) for picture in pictures]
                self.held(grammar, name, size, [pair for pair in costs if pair[1] is not None])

    def test_rising_whatever_the_order_of_signs(self):
        for signs in ("ba", "zdm", "dcba"):
            rows = [f"S 1: {sign}" for sign in signs] + ["S 1: S | S", "S 1: S / S"]
            grammar = read_grammar(f"signs {signs}\nstart S\n" + "\n".join(rows))
            for size in ((1, 1), (1, 2), (2, 1), (2, 2)):
                cost = 2 * size[0] * size[1] - 1
                self.held(grammar, "S", size, [(picture, cost) for picture in pictures_of_size(signs, *size)])

    def test_as_many_as_are_told(self):
        for many, told in TOLD.items():
            for size in told:
                cells = size[0] * size[1]
                asked = [(picture, cells - 1 + sum("abcd".index(sign) + 1 for sign in "".join(picture)))
                         for picture in pictures_of_size("abcd"[:many], *size)]
                self.assertLessEqual(len(asked), 300)
                self.held(ALL[many], "S", size, asked)
                self.held(ALL[many], "A", size, [])
        self.assertEqual(len(pictures_of(ALL[2], "S", 2, 4)), 256)
        self.assertEqual(len(pictures_of(ALL[4], "S", 2, 2)), 256)

    def test_too_many(self):
        for many, sizes_refused in REFUSED.items():
            for size, name in itertools.product(sizes_refused, ("S", "A")):
                self.refused(TooMany, ALL[many], name, *size)
                self.refused(TooMany, read_grammar(f"signs {'abcd'[:many]}\nstart S"), "S", *size)

    def test_one_sign_six_by_six(self):
        self.held(ALL[1], "S", (6, 6), [(["aaaaaa"] * 6, 71)])
        row = read_grammar("signs q\nstart S\nS 1: q\nS 1: S | S")
        self.held(row, "S", (1, 6), [(["qqqqqq"], 11)])
        self.held(row, "S", (6, 1), [])
        self.held(row, "S", (6, 6), [])

    def test_a_sign_without_a_rule(self):
        grammar = read_grammar("signs abc\nstart S\nS 1: b\nS 1: S | S")
        self.held(grammar, "S", (1, 2), [(["bb"], 3)])

    def test_names_without_a_rule(self):
        grammar = read_grammar(GRAMMARS["names without a rule"])
        for size in ((1, 1), (1, 2), (2, 4)):
            self.held(grammar, "N", size, [])
        self.held(read_grammar(GRAMMARS["no rules"]), "S", (1, 1), [])

    def test_no_name_ahead_of_too_many(self):
        for grammar, name, size in itertools.product(ALL.values(), ("T", "", "a", "SS"), ((1, 1), (6, 6), (7, 7))):
            self.refused(NoName, grammar, name, *size)

    def test_somewhat_beyond(self):
        """There is no picture of such a size, so there is none to tell."""
        for size in ((7, 1), (1, 7), (7, 7), (0, 1), (1, 0), (0, 0)):
            self.assertEqual(pictures_of(ALL[1], "S", *size), [])
        self.assertEqual(pictures_of(ALL[2], "S", 7, 1), [])

    def test_large(self):
        for grammar in large_grammars():
            for name in grammar.names():
                told = pictures_of(grammar, name, 2, 2)
                for picture, cost in told[::40]:
                    self.assertEqual(least_cost(grammar, picture, name), cost)

    def test_all_is_the_askers_own(self):
        grammar = ALL[2]
        text = grammar.told()
        told = pictures_of(grammar, "S", 2, 2)
        asked = [(list(picture), cost) for picture, cost in told]
        for k, (picture, _) in enumerate(told):
            picture[0] = "zz"
            picture.append("q")
            self.assertEqual(told[k + 1:], asked[k + 1:])
        told.clear()
        self.assertEqual(pictures_of(grammar, "S", 2, 2), asked)
        self.assertEqual(grammar.told(), text)


if __name__ == "__main__":
    unittest.main()
