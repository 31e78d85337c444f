"""Promises 15 and 16: quiltlaw.texts."""

import inspect
import itertools
import unittest

from quiltlaw import texts
from quiltlaw.errors import NoGrammar, NoRule, NoText, QuiltError
from quiltlaw.grammars import Grammar
from quiltlaw.rules import AboveRule, BesideRule, CellRule, TurnRule
from quiltlaw.texts import read_grammar, read_rule

RULES = ["S 3: a", "S 1: A | B", "S 2: A / A", "B 9: S turned 5"]
KINDS = [CellRule, BesideRule, AboveRule, TurnRule]
NO_RULES = [
    "", " ", ":", "S", "S 1", "S 1:", "S 1: ", "S 1: a ", " S 1: a", "S  1: a", "S 1:  a", "S 1 : a", "S 1:a",
    "S1: a", "S 1; a", "S 1 a", "S: a", " 1: a", "S 1: a b", "S 1: ab", "S 1: a: b", "S 1:: a",
    "S 0: a", "S 10: a", "S 12: a", "S 01: a", "S 00: a", "S -1: a", "S +1: a", "S 1.: a", "S x: a", "S : a",
    "S  : a", "s 1: a", "1 1: a", "ABCDE 1: a", "S/ 1: a",
    "S 1: A", "S 1: 1", "S 1: |", "S 1: /", "S 1: turned", "S 1: aa", "S 1: AA",
    "S 1: A B", "S 1: A |", "S 1: | B", "S 1: A | ", "S 1:  | B", "S 1: A | B ", "S 1: A | B C", "S 1: A | B | C",
    "S 1: A  | B", "S 1: A |  B", "S 1: A| B", "S 1: A |B", "S 1: A|B", "S 1: A || B", "S 1: A | b", "S 1: a | B",
    "S 1: a | b", "S 1: A \\ B", "S 1: A - B", "S 1: A // B", "S 1: A / B / C", "S 1: A/B", "S 1: ABCDE | B",
    "S 1: A | ABCDE", "S 1: A / ABCDE", "S 1: A | ", "S 0: A | B", "S 10: A | B", "S 0: A / B", "S 01: A / B",
    "S 1: A turned", "S 1: A turned ", "S 1: A turned 8", "S 1: A turned 9", "S 1: A turned 10", "S 1: A turned 00",
    "S 1: A turned 01", "S 1: A turned -1", "S 1: A turned +1", "S 1: A turned x", "S 1: A turned 1 ",
    "S 1: A turned  1", "S 1: A  turned 1", "S 1: a turned 1", "S 1: turned 1", "S 1: A Turned 1", "S 1: A turn 1",
    "S 1: A turned 1 2", "S 1: A B turned 1", "S 1: A turned B", "S 0: A turned 1", "S 10: A turned 1",
    "S 1: a\n", "\nS 1: a", "S 1:\na", "S 1: a\nS 1: a", "S\n1: a", "S 1: A |\nB", "S 1: A turned 1\n",
    "signs a", "start S", "S 1: \u00e4", "S \u0661: a", "S 1: A turned \u0661", "S \u00b2: a",
    "S 1: A turned " + "1" * 60, "S " + "1" * 60 + ": a", "S" * 1990 + " 1: a", "S 1: " + "a" * 1990,
]


class InterfaceTest(unittest.TestCase):
    def test_names_and_arguments(self):
        for name in ("read_rule", "read_grammar"):
            self.assertEqual(list(inspect.signature(getattr(texts, name)).parameters), ["text"])


class RuleTextTest(unittest.TestCase):
    def test_each_kind_read_back(self):
        for text, kind in zip(RULES, KINDS):
            rule = read_rule(text)
            self.assertIs(type(rule), kind)
            self.assertEqual(rule.told(), text)

    def test_values(self):
        rule = read_rule("WXYZ 9: z")
        self.assertEqual((rule.name, rule.cost, rule.sign), ("WXYZ", 9, "z"))
        rule = read_rule("S 1: ABCD | B")
        self.assertEqual((rule.name, rule.cost, rule.one, rule.other), ("S", 1, "ABCD", "B"))
        rule = read_rule("S 2: B / ABCD")
        self.assertEqual((rule.name, rule.cost, rule.one, rule.other), ("S", 2, "B", "ABCD"))
        rule = read_rule("B 4: S turned 7")
        self.assertEqual((rule.name, rule.cost, rule.part, rule.turning), ("B", 4, "S", 7))
        self.assertEqual((type(rule.cost), type(rule.turning)), (int, int))

    def test_made_and_read_back(self):
        names = ["A", "AB", "WXYZ"]
        made = [CellRule(n, c, s) for n, c, s in itertools.product(names, range(1, 10), "amz")]
        for kind in (BesideRule, AboveRule):
            made += [kind(n, c, a, b) for n, c, a, b in itertools.product(names, (1, 9), names, names)]
        made += [TurnRule(n, c, a, t) for n, c, a, t in itertools.product(names, (1, 9), names, range(8))]
        for rule in made:
            again = read_rule(rule.told())
            self.assertIs(type(again), type(rule))
            self.assertEqual(vars(again), vars(rule))

    def test_no_rules(self):
        for text in NO_RULES:
            with self.subTest(text):
                with self.assertRaises(QuiltError) as caught:
                    read_rule(text)
                self.assertIs(type(caught.exception), NoRule)

    def test_one_sign_away(self):
        """A text with one sign more, fewer or another is a rule just where it is written as one."""
        for text in RULES:
            for k, sign in itertools.product(range(len(text) + 1), " aA0189:|/\n~"):
                for near in (text[:k] + sign + text[k:], text[:k] + sign + text[k + 1:], text[:k] + text[k + 1:]):
                    try:
                        told = read_rule(near).told()
                    except NoRule:
                        told = None
                    self.assertIn(told, (None, near))
                    if near == text:
                        self.assertEqual(told, text)


class GrammarTextTest(unittest.TestCase):
    def wrong_row(self, row, text):
        with self.subTest(text):
            with self.assertRaises(QuiltError) as caught:
                read_grammar(text)
            self.assertIs(type(caught.exception), NoText)
            self.assertEqual(NoText.__bases__, (QuiltError,))
            self.assertEqual(caught.exception.row, row)
            self.assertIs(type(caught.exception.row), int)

    def no_grammar(self, why, text):
        with self.subTest(text):
            with self.assertRaises(QuiltError) as caught:
                read_grammar(text)
            self.assertIs(type(caught.exception), NoGrammar)
            self.assertEqual(caught.exception.why, why)

    def test_read_back_to_the_same_text(self):
        for text in ("signs a\nstart S", "signs wxyz\nstart WXYZ", "signs ba\nstart T\n" + "\n".join(RULES),
                     "signs a\nstart S\n" + "\n".join(["S 1: a"] * 24)):
            grammar = read_grammar(text)
            self.assertIs(type(grammar), Grammar)
            self.assertEqual(grammar.told(), text)

    def test_values(self):
        grammar = read_grammar("signs ba\nstart T\n" + "\n".join(RULES))
        self.assertEqual((grammar.signs, grammar.start, grammar.many()), ("ba", "T", 4))
        self.assertEqual(grammar.names(), ["T", "S", "A", "B"])
        self.assertEqual([rule.told() for rule in grammar.rules()], RULES)

    def test_first_row(self):
        for text in ("", "\n", "signs", "Signs a", "signs\nstart S", " signs a\nstart S", "start S\nsigns a", "sign a",
                     "signsa\nstart S", "\nsigns a\nstart S", "S 1: a", "signs", "start S"):
            self.wrong_row(0, text)

    def test_second_row(self):
        for text in ("signs a", "signs ", "signs a\n", "signs a\nstart", "signs a\nstartS", "signs a\n start S",
                     "signs a\nS 1: a", "signs a\nsigns a", "signs a\n\nstart S", "signs a\nStart S\nS 1: a"):
            self.wrong_row(1, text)

    def test_rules_from_the_third_row_on(self):
        head = "signs ab\nstart S\n"
        self.wrong_row(2, head)
        self.wrong_row(2, head + "\nS 1: a")
        self.wrong_row(3, head + "S 1: a\n")
        self.wrong_row(4, head + "S 1: a\nS 1: b\n")
        self.wrong_row(3, head + "S 1: a\n\nS 1: b\n")
        for wrong in NO_RULES:
            if "\n" not in wrong and len(wrong) < 100:
                self.wrong_row(2, head + wrong)
                self.wrong_row(3, head + "S 1: a\n" + wrong + "\nS 1: A | b")
        self.wrong_row(26, head + "S 1: a\n" * 24)
        self.wrong_row(201, head + "S 1: a\n" * 199 + "S 1: A")

    def test_the_first_wrong_row(self):
        self.wrong_row(0, "sign a\nstar S\nS")
        self.wrong_row(1, "signs a\nstar S\nS")
        self.wrong_row(2, "signs a\nstart S\nS\nT")

    def test_rows_ahead_of_the_grammar(self):
        self.wrong_row(2, "signs A\nstart s\nS 1: Z")
        self.wrong_row(2, "signs \nstart \n")
        self.wrong_row(1, "signs AAAAA")
        self.wrong_row(27, "signs a\nstart S\n" + "S 1: a\n" * 25 + "S 1: A")

    def test_no_grammar(self):
        self.no_grammar(("signs",), "signs \nstart S")
        self.no_grammar(("signs",), "signs a \nstart S")
        self.no_grammar(("signs",), "signs  a\nstart S")
        self.no_grammar(("signs",), "signs abcde\nstart S")
        self.no_grammar(("signs",), "signs A\nstart s")
        self.no_grammar(("start",), "signs a\nstart ")
        self.no_grammar(("start",), "signs a\nstart s")
        self.no_grammar(("start",), "signs a\nstart  S")
        self.no_grammar(("start",), "signs a\nstart S \nS 1: b")
        self.no_grammar(("rules", 25), "signs a\nstart S" + "\nS 1: b" * 25)
        self.no_grammar(("rules", 250), "signs a\nstart S" + "\nS 1: a" * 250)
        self.no_grammar(("sign", 1), "signs a\nstart S\nS 1: a\nS 1: b\nS 1: c")
        nine = "\n".join("S 1: " + name + " turned 0" for name in "ABCDEFGH")
        self.no_grammar(("names", 9), "signs a\nstart S\n" + nine)
        self.no_grammar(("sign", 8), "signs a\nstart S\n" + nine + "\nS 1: b")


if __name__ == "__main__":
    unittest.main()
