"""Promises 2, 3 and 29: quiltlaw.thinning."""

import inspect
import itertools
import random
import unittest

from slow import GRAMMARS, LARGER, SMALL, random_grammar, trees_up_to

from quiltlaw import thinning
from quiltlaw.grammars import Grammar
from quiltlaw.tables import least_cost
from quiltlaw.texts import read_grammar
from quiltlaw.thinning import come_to, of_use, thinned

HEAD = "signs ab\nstart S\n"


def least_closed(names, closed):
    """What all sets of names that are closed have in common: the least of them."""
    common = set(names)
    for many in range(len(names) + 1):
        for chosen in map(set, itertools.combinations(names, many)):
            if closed(chosen):
                common &= chosen
    return [name for name in names if name in common]


def of_use_by_words(grammar):
    """The least set of names that has each name with a rule all of whose parts it has."""
    return least_closed(grammar.names(), lambda chosen: all(
        rule.name in chosen for rule in grammar.rules() if set(rule.parts()) <= chosen))


def come_to_by_words(grammar):
    """The least set of names that has the start, and with a name the parts of its rules of use."""
    use = set(of_use_by_words(grammar))
    return least_closed(grammar.names(), lambda chosen: grammar.start in chosen and all(
        set(rule.parts()) <= chosen for rule in grammar.rules() if rule.name in chosen and set(rule.parts()) <= use))


def kept_by_words(grammar):
    """The numbers of the rules that a thinned grammar keeps."""
    use, come = of_use_by_words(grammar), come_to_by_words(grammar)
    return [k for k, rule in enumerate(grammar.rules())
            if rule.name in come and all(part in use for part in rule.parts())]


def some_grammars(many, seed):
    """Grammars of which many have names of no use or not come to."""
    chance = random.Random(seed)
    found = []
    for _ in range(many):
        whole = random_grammar(chance, chance.choice(["a", "ab"]), "SABCDE", chance.randint(1, 10))
        rules = [rule for rule in whole.rules() if chance.random() < 0.8]
        found.append(Grammar(whole.signs, chance.choice("SAB"), rules))
    return found


class InterfaceTest(unittest.TestCase):
    def test_names_and_arguments(self):
        for name in ("of_use", "come_to", "thinned"):
            self.assertEqual(list(inspect.signature(getattr(thinning, name)).parameters), ["grammar"])


class ThinningTest(unittest.TestCase):
    def held(self, grammar, use, come, kept):
        """The names of use, those come to, and the numbers of the rules that stay."""
        text = grammar.told()
        with self.subTest(grammar=text):
            self.assertEqual(of_use(grammar), use)
            self.assertEqual(come_to(grammar), come)
            told = thinned(grammar)
            self.assertIs(type(told), Grammar)
            self.assertEqual((told.signs, told.start), (grammar.signs, grammar.start))
            self.assertEqual([rule.told() for rule in told.rules()], [grammar.rule(k).told() for k in kept])
            self.assertEqual([type(names) for names in (of_use(grammar), come_to(grammar))], [list, list])
            self.assertEqual(grammar.told(), text)

    def test_all_of_use(self):
        self.held(read_grammar(GRAMMARS["both"]), ["S", "A"], ["S", "A"], [0, 1, 2, 3, 4])

    def test_the_start_without_a_rule(self):
        self.held(read_grammar(HEAD[:-1]), [], ["S"], [])
        self.held(read_grammar(HEAD + "A 1: a\nA 1: A | A"), ["A"], ["S"], [])

    def test_the_start_of_no_use(self):
        self.held(read_grammar(HEAD + "S 1: S | S"), [], ["S"], [])
        self.held(read_grammar(HEAD + "S 1: S | A\nA 1: a"), ["A"], ["S"], [])
        self.held(read_grammar(HEAD + "S 1: N turned 0\nS 1: A / N\nA 1: a\nN 1: N turned 1"), ["A"], ["S"], [])

    def test_rings_that_come_from_no_cell(self):
        ring = HEAD + "S 1: a\nS 2: A | B\nA 1: B turned 1\nB 1: C / C\nC 1: A turned 0\nD 1: D | D"
        self.held(read_grammar(ring), ["S"], ["S"], [0])
        self.held(read_grammar(ring + "\nC 1: b"), ["S", "A", "B", "C"], ["S", "A", "B", "C"], [0, 1, 2, 3, 4, 6])

    def test_found_in_whatever_order(self):
        """A chain of names whose cell rule stands last, or first."""
        rows = ["S 1: A turned 0", "A 1: B | B", "B 1: C / C", "C 1: D turned 3", "D 1: E | E", "E 1: G turned 1",
                "G 1: H / H", "H 1: a"]
        names = ["S", "A", "B", "C", "D", "E", "G", "H"]
        self.held(read_grammar(HEAD + "\n".join(rows)), names, names, list(range(8)))
        back = read_grammar(HEAD + "\n".join(reversed(rows)))
        self.held(back, back.names(), back.names(), list(range(8)))

    def test_not_come_to(self):
        grammar = read_grammar(HEAD + "A 1: a\nS 1: b\nB 1: S | A\nB 1: B turned 2")
        self.held(grammar, ["S", "A", "B"], ["S"], [1])

    def test_come_to_only_by_rules_of_use(self):
        """A is a part beside N alone, which is of no use."""
        grammar = read_grammar(HEAD + "S 1: a\nS 1: A | N\nA 1: b\nS 1: N | A")
        self.held(grammar, ["S", "A"], ["S"], [0])
        self.held(read_grammar(HEAD + "S 1: a\nS 1: A | N\nA 1: b\nS 1: A | A"), ["S", "A"], ["S", "A"], [0, 2, 3])

    def test_one_part_of_use(self):
        for row in ("S 1: A | N", "S 1: N | A", "S 1: A / N", "S 1: N / A"):
            self.held(read_grammar(HEAD + "A 1: a\n" + row), ["A"], ["S"], [])

    def test_a_name_with_rules_of_use_and_of_none(self):
        grammar = read_grammar(HEAD + "S 1: A | B\nA 1: a\nA 2: N turned 1\nB 3: b\nB 1: B / N\nA 1: A | A")
        self.held(grammar, ["S", "A", "B"], ["S", "A", "B"], [0, 1, 3, 5])

    def test_the_order_of_names(self):
        grammar = read_grammar("signs ab\nstart T\nC 1: B | A\nB 1: b\nA 1: a\nT 1: A | C")
        self.assertEqual(grammar.names(), ["T", "C", "B", "A"])
        self.held(grammar, ["T", "C", "B", "A"], ["T", "C", "B", "A"], [0, 1, 2, 3])

    def test_alike_rules_stay(self):
        self.held(read_grammar(HEAD + "S 1: a\nS 1: a\nN 1: N | N\nS 1: a"), ["S"], ["S"], [0, 1, 3])

    def test_cells_of_no_picture_that_fits(self):
        """Whether pictures fit is not asked: S is of use, though no tree of it lays out a picture."""
        grammar = read_grammar(HEAD + "A 1: a\nB 1: A | A\nS 1: A | D\nD 1: B / B\nS 2: S turned 1")
        self.held(grammar, ["S", "A", "B", "D"], ["S", "A", "B", "D"], [0, 1, 2, 3, 4])

    def test_in_the_very_words(self):
        grammars = [read_grammar(text) for text in GRAMMARS.values()] + some_grammars(150, 29)
        less = 0
        for grammar in grammars:
            self.held(grammar, of_use_by_words(grammar), come_to_by_words(grammar), kept_by_words(grammar))
            less += len(kept_by_words(grammar)) < grammar.many()
        self.assertGreater(less, 50)
        self.assertGreater(len(grammars) - less, 5)

    def test_thinned_twice(self):
        for grammar in some_grammars(40, 30):
            once = thinned(grammar)
            self.assertEqual(thinned(once).told(), once.told())
            self.assertEqual(set(of_use(once)) - {once.start}, set(once.names()) - {once.start})

    def test_the_trees_of_the_start_stay(self):
        trees = 0
        for grammar in [read_grammar(text) for text in GRAMMARS.values()] + some_grammars(30, 31):
            kept = kept_by_words(grammar)

            def anew(tree):
                return (kept.index(tree[0]), *[anew(part) for part in tree[1:]])

            before = sorted(anew(tree) for name, _, tree, _ in trees_up_to(grammar, 6) if name == grammar.start)
            after = sorted(tree for name, _, tree, _ in trees_up_to(thinned(grammar), 6) if name == grammar.start)
            self.assertEqual(before, after)
            trees += len(before)
        self.assertGreater(trees, 200)

    def test_the_costs_of_the_start_stay(self):
        for grammar in [read_grammar(text) for text in GRAMMARS.values()] + some_grammars(20, 32):
            for picture in SMALL[::3] + LARGER[:3]:
                self.assertEqual(least_cost(thinned(grammar), picture), least_cost(grammar, picture))

    def test_the_lists_are_the_askers_own(self):
        grammar = read_grammar(GRAMMARS["both"])
        for function in (of_use, come_to):
            told = function(grammar)
            told.append("Q")
            told[0] = "Z"
            self.assertEqual(function(grammar), ["S", "A"])
        thin = thinned(grammar)
        thin.rules().clear()
        self.assertEqual(thin.many(), grammar.many())


if __name__ == "__main__":
    unittest.main()
