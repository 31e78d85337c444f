"""Promises 2, 12, 13, 15 and 30 as far as single rules go: quiltlaw.rules."""

import copy
import inspect
import itertools
import unittest

from slow import put, sample, turned_by_cells

from quiltlaw import rules
from quiltlaw.errors import NoFit, NoRule, QuiltError
from quiltlaw.rules import AboveRule, BesideRule, CellRule, Rule, TurnRule

SIXTY = 10 ** 60 - 1
NO_NAMES = ["", "ABCDE", "s", "Ss", "sS", "S1", "1", "0", " ", "S ", " S", "A B", "S\n", "\n", "S/", "@", "[",
            "A" * 60, "\u00c4", "\u0391", *[chr(k) for k in range(32, 127) if not 65 <= k <= 90]]
KINDS = (CellRule, BesideRule, AboveRule, TurnRule)
BEHIND_COST = {CellRule: ("a",), BesideRule: ("A", "B"), AboveRule: ("A", "B"), TurnRule: ("A", 5)}

# Each size within three by three, and the edges of what can be put together.
SIZES = [(1, 1), (1, 2), (2, 1), (2, 2), (2, 3), (3, 2), (3, 3), (1, 3), (3, 1), (1, 5), (1, 6), (5, 1), (6, 1),
         (3, 4), (4, 3), (6, 6)]


def values_of(rule):
    """All that the interface promises of a rule, by name."""
    told = ["name", "cost", "sign", "one", "other", "part", "turning"]
    return {name: getattr(rule, name) for name in told if hasattr(rule, name)}


def of_each_kind(name="S", cost=3):
    return [CellRule(name, cost, "a"), BesideRule(name, cost, "A", "B"), AboveRule(name, cost, "A", "B"),
            TurnRule(name, cost, "A", 5)]


class RuleTest(unittest.TestCase):
    def refused(self, kind, *handed):
        with self.subTest(kind=kind.__name__, handed=handed):
            with self.assertRaises(QuiltError) as caught:
                kind(*handed)
            self.assertIs(type(caught.exception), NoRule)
            self.assertEqual(NoRule.__bases__, (QuiltError,))

    def unfit(self, rule, pictures):
        with self.assertRaises(QuiltError) as caught:
            rule.made(pictures)
        self.assertIs(type(caught.exception), NoFit)
        self.assertEqual(NoFit.__bases__, (QuiltError,))


class InterfaceTest(unittest.TestCase):
    def test_straight_under_rule(self):
        self.assertEqual(Rule.__bases__, (object,))
        for kind in KINDS:
            self.assertEqual(kind.__bases__, (Rule,))

    def test_names_and_arguments(self):
        made_of = {CellRule: ["name", "cost", "sign"], BesideRule: ["name", "cost", "one", "other"],
                   AboveRule: ["name", "cost", "one", "other"], TurnRule: ["name", "cost", "part", "turning"]}
        methods = {"parts": [], "made": ["pictures"], "renamed": ["names"], "turned_whole": ["t"], "told": []}
        for kind, arguments in made_of.items():
            self.assertEqual(list(inspect.signature(kind).parameters), arguments)
            for name, asked in methods.items():
                told = inspect.signature(getattr(kind, name)).parameters
                self.assertEqual(list(told), ["self"] + asked, f"{kind.__name__}.{name}")

    def test_there_is_no_other_class(self):
        own = [name for name, value in vars(rules).items()
               if inspect.isclass(value) and value.__module__ == "quiltlaw.rules"]
        self.assertEqual(own, ["Rule", "CellRule", "BesideRule", "AboveRule", "TurnRule"])


class MadeOfTest(RuleTest):
    """Promise 12."""

    def test_values(self):
        asked = [{"sign": "a"}, {"one": "A", "other": "B"}, {"one": "A", "other": "B"}, {"part": "A", "turning": 5}]
        for rule, own in zip(of_each_kind("SZ", 4), asked):
            self.assertEqual(values_of(rule), {"name": "SZ", "cost": 4, **own})
            self.assertIs(type(rule.cost), int)

    def test_parts(self):
        self.assertEqual([rule.parts() for rule in of_each_kind()], [[], ["A", "B"], ["A", "B"], ["A"]])
        for kind in (BesideRule, AboveRule):
            self.assertEqual(kind("S", 1, "A", "A").parts(), ["A", "A"])
            self.assertEqual(kind("S", 1, "S", "S").parts(), ["S", "S"])
            self.assertEqual(kind("S", 1, "B", "A").parts(), ["B", "A"])
        self.assertEqual(TurnRule("S", 1, "S", 0).parts(), ["S"])

    def test_parts_are_the_askers_own(self):
        for rule in of_each_kind():
            told = rule.parts()
            self.assertIs(type(told), list)
            kept = list(told)
            told.append("Q")
            told[0] = "Q"
            self.assertEqual(rule.parts(), kept)
            self.assertEqual(values_of(rule), values_of(of_each_kind()[KINDS.index(type(rule))]))

    def test_names_of_one_to_four_letters(self):
        for name in ("A", "Z", "AB", "ZZZ", "WXYZ", "AAAA"):
            for kind, behind in BEHIND_COST.items():
                self.assertEqual(kind(name, 1, *behind).name, name)
            for kind in (BesideRule, AboveRule):
                self.assertEqual(kind("S", 1, name, "B").parts(), [name, "B"])
                self.assertEqual(kind("S", 1, "B", name).parts(), ["B", name])
            self.assertEqual(TurnRule("S", 1, name, 0).parts(), [name])

    def test_each_cost_and_turning_and_sign(self):
        for kind, behind in BEHIND_COST.items():
            for cost in range(1, 10):
                self.assertEqual(kind("S", cost, *behind).cost, cost)
        for t in range(8):
            self.assertEqual(TurnRule("S", 1, "A", t).turning, t)
        for sign in "abcdefghijklmnopqrstuvwxyz":
            self.assertEqual(CellRule("S", 1, sign).sign, sign)

    def test_no_names(self):
        for name in NO_NAMES:
            for kind, behind in BEHIND_COST.items():
                self.refused(kind, name, 1, *behind)
            for kind in (BesideRule, AboveRule):
                self.refused(kind, "S", 1, name, "B")
                self.refused(kind, "S", 1, "B", name)
            self.refused(TurnRule, "S", 1, name, 0)

    def test_no_costs(self):
        for kind, behind in BEHIND_COST.items():
            for cost in (0, 10, 11, 99, -1, -9, SIXTY, -SIXTY):
                self.refused(kind, "S", cost, *behind)

    def test_no_turnings(self):
        for turning in (-1, 8, 9, -8, SIXTY, -SIXTY):
            self.refused(TurnRule, "S", 1, "A", turning)

    def test_no_signs(self):
        for sign in ("", "ab", "aa", "xyz", "A", "Z", "0", "9", " ", "a ", " a", "/", "`", "{", "\n", "\u00e4"):
            self.refused(CellRule, "S", 1, sign)


class MadeTest(RuleTest):
    """Promise 13, what a rule makes."""

    def test_cell(self):
        for sign in "akz":
            self.assertEqual(CellRule("S", 9, sign).made([]), [sign])

    def test_beside_and_above_by_hand(self):
        self.assertEqual(BesideRule("S", 1, "A", "B").made([["ab", "cd"], ["e", "f"]]), ["abe", "cdf"])
        self.assertEqual(AboveRule("S", 1, "A", "B").made([["ab", "cd"], ["ef"]]), ["ab", "cd", "ef"])

    def test_just_six_and_seven(self):
        put_beside, put_above = BesideRule("S", 1, "A", "B"), AboveRule("S", 1, "A", "B")
        self.assertEqual(put_beside.made([["aaa"], ["bbb"]]), ["aaabbb"])
        self.assertEqual(put_above.made([["a"] * 3, ["b"] * 3]), ["a", "a", "a", "b", "b", "b"])
        self.unfit(put_beside, [["aaa"], ["bbbb"]])
        self.unfit(put_above, [["a"] * 3, ["b"] * 4])
        self.unfit(put_beside, [["aaaaaa"], ["b"]])
        self.unfit(put_above, [["a"], ["b"] * 6])

    def test_unlike_rows_and_columns(self):
        put_beside, put_above = BesideRule("S", 1, "A", "B"), AboveRule("S", 1, "A", "B")
        self.unfit(put_beside, [["a"], ["a", "a"]])
        self.unfit(put_beside, [["a", "a"], ["a"]])
        self.unfit(put_above, [["a"], ["aa"]])
        self.unfit(put_above, [["aa"], ["a"]])

    def test_all_pairs_of_sizes(self):
        for one, other in itertools.product([sample(r, c) for r, c in SIZES], [sample(r, c, 9) for r, c in SIZES]):
            for kind in (BesideRule, AboveRule):
                rule = kind("S", 1, "A", "A")
                asked = put(rule, one, other)
                if asked is None:
                    self.unfit(rule, [one, other])
                else:
                    self.assertEqual(rule.made([one, other]), asked)

    def test_turned(self):
        self.assertEqual(TurnRule("S", 1, "A", 1).made([["abc", "def"]]), ["da", "eb", "fc"])
        self.assertEqual(TurnRule("S", 1, "A", 4).made([["abc", "def"]]), ["cba", "fed"])
        self.assertEqual(TurnRule("S", 1, "A", 5).made([["abc", "def"]]), ["fc", "eb", "da"])
        for (r, c), t in itertools.product(SIZES, range(8)):
            self.assertEqual(TurnRule("S", 1, "A", t).made([sample(r, c)]), turned_by_cells(sample(r, c), t))

    def test_what_is_told_is_new_and_what_is_handed_in_stays(self):
        handed = {CellRule: [], BesideRule: [["ab"], ["c"]], AboveRule: [["ab"], ["cd"]], TurnRule: [["ab"]]}
        for rule in of_each_kind() + [TurnRule("S", 1, "A", t) for t in range(8)]:
            pictures = copy.deepcopy(handed[type(rule)])
            told = rule.made(pictures)
            asked = list(told)
            self.assertIs(type(told), list)
            told.append("spoiled")
            told[0] = "spoiled"
            self.assertEqual(pictures, handed[type(rule)])
            again = rule.made(pictures)
            self.assertEqual(again, asked)
            for picture in pictures:
                picture[0] = "spoiled"
            self.assertEqual(again, asked)

    def test_one_picture_twice(self):
        picture = ["ab"]
        told = AboveRule("S", 1, "A", "A").made([picture, picture])
        told[0] = "spoiled"
        self.assertEqual((picture, told), (["ab"], ["spoiled", "ab"]))


class RenamedTest(RuleTest):
    """Promise 13, a rule renamed."""

    def renamed(self, rule, names, **asked):
        kept, stays = dict(names), values_of(rule)
        told = rule.renamed(names)
        self.assertIs(type(told), type(rule))
        self.assertIsNot(told, rule)
        self.assertEqual(values_of(told), {**stays, **asked})
        self.assertEqual(values_of(rule), stays)
        self.assertEqual(names, kept)

    def test_all_names(self):
        names = {"S": "T", "A": "B", "B": "A"}
        cell, put_beside, put_above, turn = of_each_kind()
        self.renamed(cell, names, name="T")
        self.renamed(put_beside, names, name="T", one="B", other="A")
        self.renamed(put_above, names, name="T", one="B", other="A")
        self.renamed(turn, names, name="T", part="B")

    def test_some_names(self):
        for rule in of_each_kind():
            self.renamed(rule, {"S": "WXYZ"}, name="WXYZ")
        cell, put_beside, put_above, turn = of_each_kind()
        for rule in (put_beside, put_above):
            self.renamed(rule, {"A": "Q"}, one="Q")
            self.renamed(rule, {"B": "Q"}, other="Q")
            self.renamed(rule, {"A": "Q", "B": "Q"}, one="Q", other="Q")
        self.renamed(turn, {"A": "Q"}, part="Q")
        self.renamed(cell, {"A": "Q"})

    def test_no_names_and_names_that_are_not_there(self):
        for rule in of_each_kind():
            self.renamed(rule, {})
            self.renamed(rule, {"C": "D", "a": "Q", "": "Q"})

    def test_once_not_again_and_again(self):
        rule = BesideRule("S", 1, "S", "A")
        self.renamed(rule, {"S": "A", "A": "S"}, name="A", one="A", other="S")

    def test_a_sign_is_no_name(self):
        self.renamed(CellRule("S", 1, "a"), {"a": "B"})

    def test_values_that_are_no_names(self):
        taken = {CellRule: ["S"], BesideRule: ["S", "A", "B"], AboveRule: ["S", "A", "B"], TurnRule: ["S", "A"]}
        for rule in of_each_kind():
            for name, value in itertools.product(taken[type(rule)], NO_NAMES):
                names, stays = {name: value}, values_of(rule)
                with self.assertRaises(QuiltError) as caught:
                    rule.renamed(names)
                self.assertIs(type(caught.exception), NoRule)
                self.assertEqual((names, values_of(rule)), ({name: value}, stays))

    def test_values_that_are_not_taken_may_be_no_names(self):
        for rule in of_each_kind():
            self.renamed(rule, {"S": "T", "C": "", "D": "abc", "E": "ABCDE"}, name="T")
        self.renamed(CellRule("S", 1, "a"), {"A": "", "a": ""})


class TurnedWholeTest(RuleTest):
    """Promise 30, for single rules."""

    def test_by_hand(self):
        asked_beside = ["A | B", "A / B", "B | A", "B / A", "B | A", "B / A", "A | B", "A / B"]
        asked_above = ["A / B", "B | A", "B / A", "A | B", "A / B", "B | A", "B / A", "A | B"]
        for t in range(8):
            self.assertEqual(BesideRule("S", 7, "A", "B").turned_whole(t).told(), "S 7: " + asked_beside[t])
            self.assertEqual(AboveRule("S", 7, "A", "B").turned_whole(t).told(), "S 7: " + asked_above[t])
            self.assertEqual(CellRule("S", 7, "a").turned_whole(t).told(), "S 7: a")
            self.assertEqual(TurnRule("S", 7, "A", 0).turned_whole(t).told(), "S 7: A turned 0")
        asked_turned = [[TurnRule("S", 7, "A", u).turned_whole(t).turning for u in range(8)] for t in (0, 1, 4)]
        self.assertEqual(asked_turned[0], [0, 1, 2, 3, 4, 5, 6, 7])
        self.assertEqual(asked_turned[1], [0, 1, 2, 3, 6, 7, 4, 5])
        self.assertEqual(asked_turned[2], [0, 3, 2, 1, 4, 7, 6, 5])

    def test_values_that_stay(self):
        for rule, t in itertools.product(of_each_kind("SZ", 4) + [TurnRule("SZ", 4, "A", u) for u in range(8)],
                                         range(8)):
            stays = values_of(rule)
            told = rule.turned_whole(t)
            self.assertIsNot(told, rule)
            self.assertEqual((told.name, told.cost), ("SZ", 4))
            self.assertEqual(sorted(told.parts()), rule.parts())
            self.assertEqual(values_of(rule), stays)
            if isinstance(rule, (CellRule, TurnRule)):
                self.assertIs(type(told), type(rule))
            else:
                self.assertIsInstance(told, (BesideRule, AboveRule))

    def test_what_it_makes_of_turned_pictures(self):
        pairs = list(itertools.product([sample(r, c) for r, c in SIZES], [sample(r, c, 9) for r, c in SIZES]))
        for kind, t in itertools.product((BesideRule, AboveRule), range(8)):
            rule = kind("S", 1, "A", "B")
            told = rule.turned_whole(t)
            for one, other in pairs:
                by_name = {"A": turned_by_cells(one, t), "B": turned_by_cells(other, t)}
                handed = [by_name[part] for part in told.parts()]
                asked = put(rule, one, other)
                if asked is None:
                    self.unfit(told, handed)
                else:
                    self.assertEqual(told.made(handed), turned_by_cells(asked, t))

    def test_what_cells_and_turnings_make(self):
        for t in range(8):
            self.assertEqual(CellRule("S", 1, "q").turned_whole(t).made([]), ["q"])
            for u, (r, c) in itertools.product(range(8), SIZES):
                told = TurnRule("S", 1, "A", u).turned_whole(t)
                self.assertEqual(told.made([turned_by_cells(sample(r, c), t)]),
                                 turned_by_cells(turned_by_cells(sample(r, c), u), t))

    def test_two_alike_names(self):
        for t in range(8):
            self.assertEqual(BesideRule("S", 1, "S", "S").turned_whole(t).parts(), ["S", "S"])


class ToldTest(RuleTest):
    """Promise 15, a rule written."""

    def test_each_kind(self):
        self.assertEqual(CellRule("S", 3, "a").told(), "S 3: a")
        self.assertEqual(BesideRule("S", 1, "A", "B").told(), "S 1: A | B")
        self.assertEqual(AboveRule("S", 2, "A", "A").told(), "S 2: A / A")
        self.assertEqual(TurnRule("B", 9, "S", 5).told(), "B 9: S turned 5")
        self.assertEqual(BesideRule("WXYZ", 9, "ABCD", "EF").told(), "WXYZ 9: ABCD | EF")


if __name__ == "__main__":
    unittest.main()
