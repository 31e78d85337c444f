"""Promises 2, 14 and 15: quiltlaw.grammars."""

import inspect
import unittest

from quiltlaw import grammars
from quiltlaw.errors import NoGrammar, NoName, QuiltError
from quiltlaw.grammars import Grammar
from quiltlaw.rules import AboveRule, BesideRule, CellRule, TurnRule

NO_NAMES = ["", "ABCDE", "s", "Ss", "S1", "1", " ", "S ", " S", "A B", "S\n", "\u00c4"]
NO_SIGNS = ["", "abcde", "aa", "aba", "abca", "A", "aB", "a1", "0", " ", "a ", " a", "a b", "/", "ab\n", "\u00e4"]


def cells(n, sign="a"):
    return [CellRule("S", 1, sign) for _ in range(n)]


def many_names(n):
    """Rules of the start S and n - 1 further names."""
    return [TurnRule("S", 1, "N" + "ABCDEFGHIJKLMNOP"[k], 0) for k in range(n - 1)]


class GrammarTest(unittest.TestCase):
    def refused(self, why, signs, start, rules):
        with self.subTest(signs=signs, start=start, rules=len(rules)):
            with self.assertRaises(QuiltError) as caught:
                Grammar(signs, start, rules)
            self.assertIs(type(caught.exception), NoGrammar)
            self.assertEqual(NoGrammar.__bases__, (QuiltError,))
            self.assertEqual(caught.exception.why, why)
            self.assertIs(type(caught.exception.why), tuple)


class InterfaceTest(unittest.TestCase):
    def test_names_and_arguments(self):
        self.assertEqual(list(inspect.signature(Grammar).parameters), ["signs", "start", "rules"])
        asked = {"rules": [], "rule": ["k"], "many": [], "names": [], "numbers_of": ["name"], "told": []}
        for name, arguments in asked.items():
            told = inspect.signature(getattr(grammars.Grammar, name)).parameters
            self.assertEqual(list(told), ["self"] + arguments)


class RefusedTest(GrammarTest):
    def test_signs_of_one_to_four_letters(self):
        for signs in ("a", "z", "ab", "ba", "abc", "wxyz", "dcba"):
            self.assertEqual(Grammar(signs, "S", []).signs, signs)

    def test_no_signs(self):
        for signs in NO_SIGNS:
            self.refused(("signs",), signs, "S", [])

    def test_start(self):
        for start in ("S", "AB", "WXYZ"):
            self.assertEqual(Grammar("a", start, []).start, start)
        for start in NO_NAMES:
            self.refused(("start",), "a", start, [])

    def test_how_many_rules(self):
        for n in (0, 1, 23, 24):
            self.assertEqual(Grammar("a", "S", cells(n)).many(), n)
        for n in (25, 26, 100):
            self.refused(("rules", n), "a", "S", cells(n))

    def test_signs_of_cell_rules(self):
        for k in range(24):
            rules = cells(24)
            rules[k] = CellRule("S", 1, "b")
            self.refused(("sign", k), "ac", "S", rules)
            self.assertEqual(Grammar("ab", "S", rules).rule(k).sign, "b")
        mixed = [TurnRule("S", 1, "A", 0), BesideRule("S", 1, "A", "B"), AboveRule("S", 1, "A", "B"),
                 CellRule("A", 1, "z"), CellRule("A", 1, "y")]
        self.refused(("sign", 3), "ab", "S", mixed)

    def test_how_many_names(self):
        for n in (1, 2, 7, 8):
            self.assertEqual(len(Grammar("a", "S", many_names(n)).names()), n)
        for n in (9, 10, 16):
            self.refused(("names", n), "a", "S", many_names(n))
        self.refused(("names", 9), "a", "T", many_names(8))
        self.assertEqual(len(Grammar("a", "T", many_names(7)).names()), 8)

    def test_names_of_all_rules_and_parts_count(self):
        rules = [BesideRule("A", 1, "B", "C"), AboveRule("D", 1, "E", "F"), CellRule("G", 1, "a")]
        self.assertEqual(len(Grammar("a", "S", rules).names()), 8)
        for more in (CellRule("H", 1, "a"), TurnRule("A", 1, "H", 1), BesideRule("A", 1, "H", "A"),
                     AboveRule("A", 1, "A", "H")):
            self.refused(("names", 9), "a", "S", rules + [more])

    def test_the_first_fault(self):
        odd_sign = [CellRule("S", 1, "z")]
        self.refused(("signs",), "", "", cells(25))
        self.refused(("signs",), "aa", "S", odd_sign + many_names(9))
        self.refused(("signs",), "A", "s", [])
        self.refused(("signs",), "abcde", "S", cells(25))
        self.refused(("start",), "a", "s", cells(25))
        self.refused(("start",), "a", "", odd_sign)
        self.refused(("start",), "a", "ABCDE", many_names(9))
        self.refused(("rules", 25), "a", "S", cells(24) + odd_sign)
        self.refused(("rules", 26), "a", "S", odd_sign + many_names(9) + cells(17))
        self.refused(("rules", 25), "a", "S", many_names(10) + cells(16))
        self.refused(("sign", 0), "a", "S", odd_sign + many_names(9))
        self.refused(("sign", 8), "a", "S", many_names(9) + odd_sign)
        self.refused(("sign", 1), "a", "S", cells(1) + odd_sign + odd_sign)

    def test_what_is_refused_stays(self):
        rules = cells(25)
        kept = list(rules)
        self.refused(("rules", 25), "a", "S", rules)
        self.assertEqual(rules, kept)


class NamesTest(GrammarTest):
    def test_in_the_order_in_which_they_are_met(self):
        rules = [BesideRule("B", 1, "D", "A"), TurnRule("A", 1, "C", 3), AboveRule("S", 1, "E", "B"),
                 CellRule("F", 1, "a")]
        grammar = Grammar("a", "S", rules)
        self.assertEqual(grammar.names(), ["S", "B", "D", "A", "C", "E", "F"])
        self.assertEqual(Grammar("a", "C", rules).names(), ["C", "B", "D", "A", "S", "E", "F"])
        self.assertEqual(Grammar("a", "C", rules[::-1]).names(), ["C", "F", "S", "E", "B", "A", "D"])
        self.assertEqual(Grammar("a", "Q", []).names(), ["Q"])
        self.assertEqual(Grammar("a", "S", [BesideRule("S", 1, "S", "S")]).names(), ["S"])

    def test_numbers(self):
        rules = [BesideRule("B", 1, "D", "A"), CellRule("S", 2, "a"), CellRule("B", 1, "b"), CellRule("S", 2, "a"),
                 TurnRule("B", 1, "B", 0)]
        grammar = Grammar("ab", "S", rules)
        asked = {"S": [1, 3], "B": [0, 2, 4], "D": [], "A": []}
        self.assertEqual({name: grammar.numbers_of(name) for name in grammar.names()}, asked)
        self.assertEqual(Grammar("a", "Q", []).numbers_of("Q"), [])

    def test_no_name(self):
        grammar = Grammar("a", "S", [CellRule("A", 1, "a")])
        for name in ("B", "SA", "a", "", "s", "AAAA", "ABCDE"):
            with self.assertRaises(QuiltError) as caught:
                grammar.numbers_of(name)
            self.assertIs(type(caught.exception), NoName)
            self.assertEqual(NoName.__bases__, (QuiltError,))


class KeptTest(GrammarTest):
    def test_rules(self):
        rules = [CellRule("S", 1, "a"), BesideRule("S", 2, "S", "A"), CellRule("S", 1, "a")]
        grammar = Grammar("a", "S", rules)
        self.assertEqual(grammar.many(), 3)
        self.assertEqual([rule.told() for rule in grammar.rules()], ["S 1: a", "S 2: S | A", "S 1: a"])
        for k in range(3):
            self.assertEqual(grammar.rule(k).told(), rules[k].told())
            self.assertIs(type(grammar.rule(k)), type(rules[k]))

    def test_two_alike_rules_are_two(self):
        rule = CellRule("S", 1, "a")
        grammar = Grammar("a", "S", [rule, rule])
        self.assertEqual((grammar.many(), grammar.numbers_of("S")), (2, [0, 1]))

    def test_told_lists_are_the_askers_own(self):
        grammar = Grammar("ab", "S", [CellRule("S", 1, "a"), TurnRule("A", 2, "S", 3)])
        text = grammar.told()
        for told in (grammar.rules(), grammar.names(), grammar.numbers_of("S"), grammar.numbers_of("A")):
            self.assertIs(type(told), list)
            told.append(told[0])
            told[0] = None
        self.assertEqual((grammar.told(), grammar.many()), (text, 2))
        self.assertEqual([rule.told() for rule in grammar.rules()], ["S 1: a", "A 2: S turned 3"])
        self.assertEqual((grammar.names(), grammar.numbers_of("S"), grammar.numbers_of("A")), (["S", "A"], [0], [1]))

    def test_the_list_changed_behind_the_making(self):
        rules = [CellRule("S", 1, "a"), TurnRule("A", 2, "S", 3)]
        grammar = Grammar("ab", "S", rules)
        text, told = grammar.told(), grammar.rules()
        rules[0] = CellRule("Q", 9, "z")
        rules.append(CellRule("R", 1, "a"))
        self.assertEqual((grammar.told(), grammar.many(), grammar.names()), (text, 2, ["S", "A"]))
        self.assertEqual((grammar.rules(), grammar.rule(0)), (told, told[0]))
        rules.clear()
        self.assertEqual((grammar.told(), grammar.many()), (text, 2))

    def test_what_is_handed_in_stays(self):
        rules = [CellRule("S", 1, "a"), TurnRule("A", 2, "S", 3)]
        kept = list(rules)
        grammar = Grammar("ab", "S", rules)
        grammar.rules().clear()
        self.assertEqual(rules, kept)


class ToldTest(unittest.TestCase):
    def test_written(self):
        self.assertEqual(Grammar("a", "S", []).told(), "signs a\nstart S")
        rules = [CellRule("S", 3, "a"), BesideRule("S", 1, "A", "B"), AboveRule("S", 2, "A", "A"),
                 TurnRule("B", 9, "S", 5)]
        self.assertEqual(Grammar("ba", "WXYZ", rules).told(),
                         "signs ba\nstart WXYZ\nS 3: a\nS 1: A | B\nS 2: A / A\nB 9: S turned 5")


if __name__ == "__main__":
    unittest.main()
