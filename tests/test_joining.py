"""Promises 2, 3, 30 and 31: quiltlaw.joining."""

import inspect
import itertools
import random
import unittest

from slow import GRAMMARS, LARGER, SMALL, made_within, random_grammar, turned_by_cells

from quiltlaw import joining
from quiltlaw.errors import NoRule, QuiltError, TooMany
from quiltlaw.grammars import Grammar
from quiltlaw.joining import joined, turned_grammar
from quiltlaw.tables import least_cost, table_of
from quiltlaw.texts import read_grammar
from quiltlaw.turnings import back

WAYS = ("either", "beside", "above")
NO_WAYS = ("", "Either", "either ", " either", "both", "left", "besides", "abov", "|", "/", "J")
ONE = read_grammar("signs ab\nstart S\nA 1: a\nS 2: A | B\nB 3: b\nS 1: S turned 1")
OTHER = read_grammar("signs cb\nstart T\nT 4: c\nT 1: T / U\nU 5: b")
JOINED_ROWS = ["FB 1: a", "FA 2: FB | FC", "FC 3: b", "FA 1: FA turned 1", "SA 4: c", "SA 1: SA / SB", "SB 5: b"]


def of_size(signs, rules, names):
    """A grammar of so many signs, rules and names."""
    used = ["S", *"ABCDEFGH"][:names]
    rows = [f"{used[k % names]} 1: {'abcd'[k % signs]}" for k in range(rules)]
    grammar = read_grammar("\n".join([f"signs {'abcd'[:signs]}", "start S", *rows]))
    assert len(grammar.names()) == names
    return grammar


def without_rules(signs):
    """A grammar of these signs and of one name."""
    return Grammar(signs, "S", [])


class InterfaceTest(unittest.TestCase):
    def test_names_and_arguments(self):
        self.assertEqual(list(inspect.signature(joining.turned_grammar).parameters), ["grammar", "t"])
        self.assertEqual(list(inspect.signature(joining.joined).parameters), ["one", "other", "way"])


class TurnedTest(unittest.TestCase):
    """Promise 30."""

    def held(self, grammar, pictures):
        """Each picture turned by t costs by the turned grammar what it cost by the old one."""
        text = grammar.told()
        for t in range(8):
            whole = turned_grammar(grammar, t)
            self.assertIs(type(whole), Grammar)
            self.assertEqual((whole.signs, whole.start, whole.many()), (grammar.signs, grammar.start, grammar.many()))
            for rule, other in zip(grammar.rules(), whole.rules()):
                self.assertEqual((rule.name, rule.cost, sorted(rule.parts())),
                                 (other.name, other.cost, sorted(other.parts())))
            again = turned_grammar(whole, back(t))
            for picture in pictures:
                table = table_of(grammar, picture)
                turned = turned_by_cells(picture, t)
                with self.subTest(grammar=text, t=t, picture=picture):
                    asked = {("/".join(turned_by_cells(seen.split("/"), t)), name): cost
                             for (seen, name), cost in table.items()}
                    self.assertEqual(table_of(whole, turned), asked)
                    self.assertEqual(table_of(again, picture), table)
        self.assertEqual(grammar.told(), text)

    def test_by_hand(self):
        grammar = read_grammar("signs ab\nstart S\nA 2: a\nS 1: A | B\nB 3: A / S\nS 4: A turned 1\nS 5: B turned 4")
        rows = {0: ["S 1: A | B", "B 3: A / S", "S 4: A turned 1", "S 5: B turned 4"],
                1: ["S 1: A / B", "B 3: S | A", "S 4: A turned 1", "S 5: B turned 6"],
                2: ["S 1: B | A", "B 3: S / A", "S 4: A turned 1", "S 5: B turned 4"],
                3: ["S 1: B / A", "B 3: A | S", "S 4: A turned 1", "S 5: B turned 6"],
                4: ["S 1: B | A", "B 3: A / S", "S 4: A turned 3", "S 5: B turned 4"],
                5: ["S 1: B / A", "B 3: S | A", "S 4: A turned 3", "S 5: B turned 6"],
                6: ["S 1: A | B", "B 3: S / A", "S 4: A turned 3", "S 5: B turned 4"],
                7: ["S 1: A / B", "B 3: A | S", "S 4: A turned 3", "S 5: B turned 6"]}
        for t, asked in rows.items():
            text = "\n".join(["signs ab", "start S", "A 2: a", *asked])
            self.assertEqual(turned_grammar(grammar, t).told(), text)

    def test_each_grammar(self):
        for text in GRAMMARS.values():
            self.held(read_grammar(text), [["ab"], ["a", "b"], ["ab", "bb"], ["aab", "bab"]])

    def test_each_kind_of_rule(self):
        cells = "signs ab\nstart S\nA 1: a\nB 2: b\n"
        for row in ("S 1: A | B", "S 1: A / B", "S 1: B | A", "S 1: B / A"):
            self.held(read_grammar(cells + row), [["ab"], ["ba"], ["a", "b"], ["b", "a"]])
        for u in range(8):
            self.held(read_grammar(cells + f"C 1: A | B\nD 1: C / C\nD 5: A | B\nS 1: D turned {u}\nC 3: A | A"),
                      [["ab", "aa"], ["ab"], ["aa", "ab"]])

    def test_some_grammars(self):
        chance = random.Random(30)
        for _ in range(12):
            grammar = random_grammar(chance, many=chance.randint(4, 16))
            self.held(grammar, [chance.choice(SMALL), chance.choice(LARGER)])

    def test_no_rules(self):
        for t in range(8):
            self.assertEqual(turned_grammar(without_rules("ab"), t).told(), "signs ab\nstart S")


class JoinedTest(unittest.TestCase):
    """Promise 31."""

    def refused(self, error, one, other, way):
        texts = one.told(), other.told()
        with self.subTest(way=way, one=texts[0], other=texts[1]):
            with self.assertRaises(QuiltError) as caught:
                joined(one, other, way)
            self.assertIs(type(caught.exception), error)
            self.assertEqual(error.__bases__, (QuiltError,))
            self.assertEqual((one.told(), other.told()), texts)

    def test_each_way(self):
        own = {"either": ["J 1: FA turned 0", "J 1: SA turned 0"], "beside": ["J 1: FA | SA"], "above": ["J 1: FA / SA"]}
        for way, rows in own.items():
            texts = ONE.told(), OTHER.told()
            told = joined(ONE, OTHER, way)
            self.assertIs(type(told), Grammar)
            self.assertEqual(told.told(), "\n".join(["signs abc", "start J", *rows, *JOINED_ROWS]))
            self.assertEqual((ONE.told(), OTHER.told()), texts)

    def test_names_in_their_order(self):
        """In the order of names(), not of the rules: S is first, A is met ahead of B."""
        self.assertEqual((ONE.names(), OTHER.names()), (["S", "A", "B"], ["T", "U"]))
        self.assertEqual(joined(ONE, OTHER, "beside").names(), ["J", "FA", "SA", "FB", "FC", "SB"])
        strange = read_grammar("signs a\nstart FB\nFB 1: FA | J\nFA 1: SA turned 1\nJ 1: a\nSA 2: a")
        self.assertEqual(joined(strange, without_rules("a"), "above").told(),
                         "signs a\nstart J\nJ 1: FA / SA\nFA 1: FB | FC\nFB 1: FD turned 1\nFC 1: a\nFD 2: a")
        self.assertEqual(joined(without_rules("a"), strange, "above").told(),
                         "signs a\nstart J\nJ 1: FA / SA\nSA 1: SB | SC\nSB 1: SD turned 1\nSC 1: a\nSD 2: a")

    def test_signs_in_their_order(self):
        for one, other, asked in (("ab", "ab", "ab"), ("ab", "ba", "ab"), ("ba", "ab", "ba"), ("z", "yx", "zyx"),
                                  ("ca", "dab", "cadb"), ("a", "dcba", "adcb"), ("dcba", "a", "dcba")):
            self.assertEqual(joined(without_rules(one), without_rules(other), "either").signs, asked)

    def test_a_grammar_with_itself(self):
        told = joined(OTHER, OTHER, "beside")
        self.assertEqual(told.names(), ["J", "FA", "SA", "FB", "SB"])
        self.assertEqual(told.many(), 7)

    def test_no_way(self):
        for way in NO_WAYS:
            self.refused(NoRule, ONE, OTHER, way)
            self.refused(NoRule, without_rules("abcd"), without_rules("efgh"), way)
            self.refused(NoRule, of_size(1, 24, 1), of_size(1, 24, 1), way)
            self.refused(NoRule, of_size(1, 8, 8), of_size(1, 8, 8), way)

    def test_rules(self):
        for way, own in (("either", 2), ("beside", 1), ("above", 1)):
            for first in (0, 1, 11, 23 - own, 24 - own):
                one, other = of_size(2, first, 1), of_size(2, 24 - own - first, 1)
                self.assertEqual(joined(one, other, way).many(), 24)
                self.refused(TooMany, one, of_size(2, 25 - own - first, 1), way)
            self.refused(TooMany, of_size(1, 24, 1), of_size(1, 24, 1), way)
            self.refused(TooMany, of_size(1, 24, 1), without_rules("a"), way)

    def test_names(self):
        for way, first in itertools.product(WAYS, range(1, 7)):
            told = joined(of_size(2, 7, first), of_size(2, 7, 7 - first), way)
            self.assertEqual(len(told.names()), 8)
            self.refused(TooMany, of_size(2, 8, first), of_size(2, 8, 8 - first), way)
            self.refused(TooMany, of_size(2, 8, 8), of_size(2, 8, first), way)
            self.refused(TooMany, of_size(2, 8, first), of_size(2, 8, 8), way)

    def test_signs(self):
        for way in WAYS:
            for one, other in (("ab", "cd"), ("a", "bcd"), ("abc", "bcd"), ("abcd", "dcba")):
                self.assertEqual(joined(without_rules(one), without_rules(other), way).signs, "abcd")
            for one, other in (("abcd", "e"), ("ab", "cde"), ("e", "abcd"), ("abc", "cde"), ("abcd", "efgh")):
                self.refused(TooMany, without_rules(one), without_rules(other), way)

    def test_starts_without_a_rule(self):
        told = joined(without_rules("a"), ONE, "either")
        self.assertEqual(told.names(), ["J", "FA", "SA", "SB", "SC"])
        self.assertEqual(least_cost(told, ["ab"]), least_cost(ONE, ["ab"]) + 1)
        for way in ("beside", "above"):
            self.assertIsNone(least_cost(joined(without_rules("a"), ONE, way), ["ab"]))

    def test_what_it_was_made_of_stays_out(self):
        rules = OTHER.rules()
        other = Grammar("cb", "T", rules)
        told = joined(ONE, other, "either")
        text = told.told()
        rules.clear()
        told.rules().clear()
        self.assertEqual(told.told(), text)


class JoinedCostsTest(unittest.TestCase):
    def pairs(self):
        chance = random.Random(31)
        small = [read_grammar(GRAMMARS[name]) for name in ("beside", "above", "cells alone", "no rules")]
        small += [random_grammar(chance, "ab", "SAB", chance.randint(2, 8)) for _ in range(6)]
        return [(one, other) for one, other in itertools.product(small, repeat=2)]

    def least_of(self, costs):
        """The least, one more for the rule of J; None where there is none."""
        return min([cost + 1 for cost in costs if cost is not None], default=None)

    def halves(self, picture, way):
        """All two pictures that make this one, beside or above."""
        if way == "beside":
            return [([row[:at] for row in picture], [row[at:] for row in picture]) for at in range(1, len(picture[0]))]
        return [(picture[:at], picture[at:]) for at in range(1, len(picture))]

    def test_against_both(self):
        made = {way: 0 for way in WAYS}
        for one, other in self.pairs():
            first, second = made_within(one, 2), made_within(other, 2)
            by_first = {text: cost for (text, name), cost in first.items() if name == one.start}
            by_second = {text: cost for (text, name), cost in second.items() if name == other.start}
            for way, picture in itertools.product(WAYS, SMALL[::2]):
                if way == "either":
                    costs = [by_first.get("/".join(picture)), by_second.get("/".join(picture))]
                else:
                    costs = [by_first["/".join(left)] + by_second["/".join(right)]
                             for left, right in self.halves(picture, way)
                             if "/".join(left) in by_first and "/".join(right) in by_second]
                told = least_cost(joined(one, other, way), picture)
                self.assertEqual(told, self.least_of(costs), (one.told(), other.told(), way, picture))
                made[way] += told is not None
        self.assertGreater(min(made.values()), 30)

    def test_the_names_make_what_they_made(self):
        for one, other in self.pairs()[::7]:
            for way, picture in itertools.product(WAYS, (["ab", "ba"], ["a", "b"])):
                told = table_of(joined(one, other, way), picture)
                asked = {}
                for grammar, letter in ((one, "F"), (other, "S")):
                    names = {name: letter + "ABCDEFGH"[k] for k, name in enumerate(grammar.names())}
                    asked.update({(text, names[name]): cost
                                  for (text, name), cost in table_of(grammar, picture).items()})
                self.assertEqual({key: cost for key, cost in told.items() if key[1] != "J"}, asked)


if __name__ == "__main__":
    unittest.main()
