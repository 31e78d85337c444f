"""Promises 2, 3, 23 and 25: quiltlaw.papers."""

import inspect
import itertools
import random
import unittest

from slow import (GRAMMARS, LARGER, SMALL, coming, large_grammars, made_within, random_grammar, seen_by_windows,
                  turned_by_cells)

from quiltlaw import papers
from quiltlaw.errors import NoName, QuiltError
from quiltlaw.papers import costs_by, holds, table_fault
from quiltlaw.tables import table_of
from quiltlaw.texts import read_grammar

EACH_KIND = read_grammar("""signs ab
start S
S 3: a
S 2: A | B
S 4: A / B
S 5: A turned 1
A 1: a
A 1: a
A 7: b""")
RING = "signs a\nstart S\nS 1: T turned 0\nT 1: S turned 0"
BIG = 10 ** 60 - 1


def fault_by_words(grammar, picture, told):
    """The first fault in the very words of promise 25."""
    could = sorted(itertools.product(seen_by_windows(picture), grammar.names()))
    for key in sorted(told):
        if key not in could or told[key] < 1:
            return ("key", key)
    for key in could:
        costs = [cost for cost, _, _ in coming(grammar, told, key)]
        if costs and (key not in told or told[key] > min(costs)):
            return ("lacks", key)
        if key in told and (not costs or min(costs) > told[key]):
            return ("loose", key)
    return None


def without(told, key):
    """The dict without a key."""
    return {other: cost for other, cost in told.items() if other != key}


class InterfaceTest(unittest.TestCase):
    def test_names_and_arguments(self):
        asked = {"costs_by": ["grammar", "told", "key"], "table_fault": ["grammar", "picture", "told"],
                 "holds": ["grammar", "picture", "told"]}
        for name, arguments in asked.items():
            self.assertEqual(list(inspect.signature(getattr(papers, name)).parameters), arguments)


class CostsTest(unittest.TestCase):
    def told(self, grammar, told, key, costs):
        kept = dict(told)
        with self.subTest(key=key, told=told):
            answer = costs_by(grammar, told, key)
            self.assertEqual(answer, costs)
            self.assertIs(type(answer), list)
            self.assertTrue(all(type(cost) is int for cost in answer))
            self.assertEqual(told, kept)

    def test_cells(self):
        self.told(EACH_KIND, {}, ("a", "S"), [3])
        self.told(EACH_KIND, {}, ("b", "S"), [])
        self.told(EACH_KIND, {}, ("b", "A"), [7])
        self.told(EACH_KIND, {("a", "A"): 9}, ("aa", "A"), [])
        self.told(EACH_KIND, {}, ("z", "A"), [])

    def test_the_same_cost_twice(self):
        self.told(EACH_KIND, {}, ("a", "A"), [1, 1])
        grammar = read_grammar("signs a\nstart S\nS 2: S | S\nS 2: S | S\nS 1: S | S")
        told = {("a", "S"): 1, ("aa", "S"): 5}
        self.told(grammar, told, ("aaa", "S"), [7, 7, 8, 8, 8, 8])

    def test_both_parts_one_of_them_none(self):
        for text, key in (("ab", ("ab", "S")), ("a/b", ("a/b", "S"))):
            cost = 2 if text == "ab" else 4
            self.told(EACH_KIND, {("a", "A"): 10, ("b", "B"): 20}, key, [cost + 30])
            self.told(EACH_KIND, {("a", "A"): 10}, key, [])
            self.told(EACH_KIND, {("b", "B"): 20}, key, [])
            self.told(EACH_KIND, {}, key, [])
            self.told(EACH_KIND, {("a", "B"): 10, ("b", "A"): 20}, key, [])
            self.told(EACH_KIND, {(text, "S"): 5}, key, [])

    def test_each_place(self):
        told = {("a", "A"): 1, ("bab", "B"): 30, ("ab", "A"): 20, ("ab", "B"): 2, ("aba", "A"): 3, ("b", "B"): 1}
        self.told(EACH_KIND, told, ("abab", "S"), [6, 24, 33])
        high = {("a", "A"): 1, ("b/a/b", "B"): 30, ("a/b", "A"): 20, ("a/b", "B"): 2, ("a/b/a", "A"): 3,
                ("b", "B"): 1}
        self.told(EACH_KIND, high, ("a/b/a/b", "S"), [8, 26, 35])
        self.told(EACH_KIND, {("ab/ba", "A"): 4, ("b/a", "B"): 5, ("abb", "A"): 6, ("baa", "B"): 7},
                  ("abb/baa", "S"), [11, 17])

    def test_rising_over_all_rules(self):
        told = {("b", "A"): 1, ("a", "B"): 1, ("a/b", "A"): 1, ("b/a", "A"): 2, ("ab", "A"): 2}
        self.told(EACH_KIND, told, ("ba", "S"), [4, 6])
        self.told(EACH_KIND, {("a", "A"): -9, ("b", "B"): 0, ("b/a", "A"): -20}, ("ab", "S"), [-15, -7])

    def test_each_turning(self):
        picture = ["abc", "abb"]
        for t in range(8):
            grammar = read_grammar(f"signs abc\nstart S\nS 2: A turned {t}")
            there = "/".join(turned_by_cells(picture, t))
            self.told(grammar, {("abc/abb", "A"): 5}, (there, "S"), [7])
            self.told(grammar, {("abc/abb", "S"): 5}, (there, "S"), [])
            for u in range(8):
                if u != t:
                    self.told(grammar, {("abc/abb", "A"): 5}, ("/".join(turned_by_cells(picture, u)), "S"), [])

    def test_its_own_name_and_picture(self):
        grammar = read_grammar("signs a\nstart S\nS 1: S turned 0\nS 2: S turned 5\nS 9: a\nS 1: S | S")
        self.told(grammar, {("a", "S"): 4}, ("a", "S"), [5, 6, 9])
        self.told(grammar, {("aa", "S"): 4, ("a/a", "S"): 1}, ("aa", "S"), [3, 5])
        self.told(grammar, {("aa/aa", "S"): 1}, ("aa/aa", "S"), [2, 3])

    def test_costs_that_no_table_has(self):
        for one, other in itertools.product((0, -1, -BIG, BIG, 1), repeat=2):
            self.told(EACH_KIND, {("a", "A"): one, ("b", "B"): other}, ("ab", "S"), [2 + one + other])

    def test_keys_that_no_table_has(self):
        told = {("", ""): 1, ("zz/z", "A"): 2, ("a", "Q"): 3, ("a", "a"): 4, ("A", "a"): 5, ("/", "S"): 6,
                ("a", "A"): 7, ("b", "B"): 8, ("a" * 90, "S"): 9}
        self.told(EACH_KIND, told, ("ab", "S"), [17])
        self.told(EACH_KIND, told, ("a", "S"), [3, 12])
        # A place is from 1 to below the end: nothing is parted into all and an empty rest.
        rests = {(text, name): 1 for text in ("", "/", "//", "ab", "ab/ab", "a/b") for name in ("A", "B")}
        for text in ("ab", "ab/ab", "a/b"):
            self.told(EACH_KIND, {key: cost for key, cost in rests.items() if key[0] in ("", "/", "//", text)},
                      (text, "S"), [])

    def test_names_without_a_rule(self):
        self.told(EACH_KIND, {("a", "A"): 1}, ("a", "B"), [])
        self.told(read_grammar("signs a\nstart S"), {("a", "S"): 1}, ("a", "S"), [])

    def test_no_name(self):
        for text, name in itertools.product(("a", "zz", ""), ("T", "AB", "", "a", "ABCDE")):
            with self.assertRaises(QuiltError) as caught:
                costs_by(EACH_KIND, {("a", "A"): 1}, (text, name))
            self.assertIs(type(caught.exception), NoName)
            self.assertEqual(NoName.__bases__, (QuiltError,))

    def test_in_the_very_words(self):
        chance = random.Random(25)
        costs = 0
        for _ in range(80):
            grammar = random_grammar(chance, many=chance.randint(1, 20))
            picture = chance.choice(SMALL + LARGER)
            keys = list(itertools.product(sorted(seen_by_windows(picture)), grammar.names()))
            told = {key: chance.randint(-3, 20) for key in keys if chance.random() < 0.7}
            for key in keys:
                asked = sorted(cost for cost, _, _ in coming(grammar, told, key))
                self.told(grammar, told, key, asked)
                costs += len(asked)
        self.assertGreater(costs, 3000)

    def test_the_list_is_the_askers_own(self):
        told = {("a", "A"): 1, ("b", "B"): 1}
        answer = costs_by(EACH_KIND, told, ("ab", "S"))
        answer.append(99)
        self.assertEqual(costs_by(EACH_KIND, told, ("ab", "S")), [4])
        again = costs_by(EACH_KIND, told, ("ab", "S"))
        told[("a", "A")] = 50
        self.assertEqual((again, costs_by(EACH_KIND, told, ("ab", "S"))), ([4], [53]))


class PaperTest(unittest.TestCase):
    def faulty(self, grammar, picture, told, fault):
        kept, rows = dict(told), list(picture)
        with self.subTest(grammar=grammar.told(), picture=picture, told=told):
            answer = table_fault(grammar, picture, told)
            self.assertEqual(answer, fault)
            self.assertIs(holds(grammar, picture, told), fault is None)
            if fault is not None:
                self.assertEqual((type(answer), type(answer[1])), (tuple, tuple))
            self.assertEqual((told, picture), (kept, rows))


class TableItselfTest(PaperTest):
    def test_each_table_holds(self):
        for text in GRAMMARS.values():
            grammar = read_grammar(text)
            least = made_within(grammar, 2)
            for picture in SMALL:
                seen = seen_by_windows(picture)
                self.faulty(grammar, picture, {key: cost for key, cost in least.items() if key[0] in seen}, None)

    def test_some_tables_hold(self):
        chance = random.Random(26)
        for _ in range(40):
            grammar = random_grammar(chance, many=chance.randint(1, 20))
            for picture in LARGER:
                self.faulty(grammar, picture, table_of(grammar, picture), None)

    def test_the_order_of_keys_is_free(self):
        grammar = read_grammar(GRAMMARS["both"])
        told = table_of(grammar, ["ab", "ba"])
        self.faulty(grammar, ["ab", "ba"], dict(sorted(told.items(), reverse=True)), None)

    def test_the_empty_dict(self):
        self.faulty(read_grammar(GRAMMARS["no rules"]), ["ab", "ba"], {}, None)
        self.faulty(read_grammar(GRAMMARS["both"]), ["zz"], {}, None)
        self.faulty(read_grammar(RING), ["aa"], {}, None)
        self.faulty(read_grammar(GRAMMARS["both"]), ["zb"], {}, ("lacks", ("b", "A")))
        self.faulty(read_grammar(GRAMMARS["cells alone"]), ["ba"], {}, ("lacks", ("a", "S")))

    def test_just_one_dict_holds(self):
        """Of all dicts from the keys to small numbers, the table alone."""
        for rows in ("S 2: a\nS 1: S | S", "S 1: a\nS 1: S | S\nS 1: S turned 1", "S 3: a\nS 1: S turned 0\nS 1: S / S",
                     "S 1: S turned 1\nS 2: S | S"):
            grammar = read_grammar("signs a\nstart S\n" + rows)
            table = table_of(grammar, ["aa"])
            self.assertLess(max(table.values(), default=0), 9)
            for costs in itertools.product((None, *range(1, 9)), repeat=3):
                told = {(text, "S"): cost for text, cost in zip(("a", "aa", "a/a"), costs) if cost is not None}
                self.assertIs(holds(grammar, ["aa"], told), told == table)


class KeyTest(PaperTest):
    GRAMMAR = read_grammar(GRAMMARS["beside"])
    TABLE = {("a", "A"): 1, ("b", "B"): 2, ("ab", "S"): 6}

    def test_no_seen_picture(self):
        for text in ("bb", "aa", "ab/ab", "z", "", "/", "a/", "A", "aab", "ab ", "abababababab"):
            self.faulty(self.GRAMMAR, ["ab"], {**self.TABLE, (text, "S"): 8}, ("key", (text, "S")))
        for text in ("a", "b", "ab", "ba", "a/b", "b/a"):
            self.assertNotEqual(table_fault(self.GRAMMAR, ["ab"], {**self.TABLE, (text, "S"): 8}),
                                ("key", (text, "S")))

    def test_no_name_of_the_grammar(self):
        for name in ("C", "", "a", "SS", "s", "ABCDE", "ab"):
            self.faulty(self.GRAMMAR, ["ab"], {**self.TABLE, ("a", name): 1}, ("key", ("a", name)))

    def test_values_below_1(self):
        for key, cost in itertools.product(self.TABLE, (0, -1, -BIG)):
            self.faulty(self.GRAMMAR, ["ab"], {**self.TABLE, key: cost}, ("key", key))
        self.faulty(self.GRAMMAR, ["ab"], {**self.TABLE, ("ba", "S"): 0}, ("key", ("ba", "S")))

    def test_ahead_of_all_others(self):
        self.faulty(self.GRAMMAR, ["ab"], {("z", "Z"): 1}, ("key", ("z", "Z")))
        self.faulty(self.GRAMMAR, ["ab"], {("a", "A"): 9, ("b", "B"): 0}, ("key", ("b", "B")))

    def test_the_least_first(self):
        strange = [("", "S"), ("a", "C"), ("aa", "A"), ("ab", "T"), ("bb", "A"), ("bb", "B")]
        for many in range(1, len(strange) + 1):
            told = {**{key: 5 for key in reversed(strange[-many:])}, **self.TABLE}
            self.faulty(self.GRAMMAR, ["ab"], told, ("key", strange[-many]))
        # A value below 1 and a strange key are one kind of fault.
        self.faulty(self.GRAMMAR, ["ab"], {("ab", "S"): 0, ("bb", "S"): 3}, ("key", ("ab", "S")))
        self.faulty(self.GRAMMAR, ["ab"], {("ab", "S"): 0, ("aa", "S"): 3}, ("key", ("aa", "S")))


class LacksAndLooseTest(PaperTest):
    GRAMMAR = read_grammar(GRAMMARS["beside"])
    TABLE = {("a", "A"): 1, ("b", "B"): 2, ("ab", "S"): 6}

    def test_left_out(self):
        for key in self.TABLE:
            # The row's own key falls with a part of it, but the part comes first or is lacking anyhow.
            asked = ("loose", ("ab", "S")) if key == ("b", "B") else ("lacks", key)
            self.faulty(self.GRAMMAR, ["ab"], without(self.TABLE, key), asked)

    def test_greater_and_less(self):
        self.faulty(self.GRAMMAR, ["ab"], {**self.TABLE, ("ab", "S"): 7}, ("lacks", ("ab", "S")))
        self.faulty(self.GRAMMAR, ["ab"], {**self.TABLE, ("ab", "S"): BIG}, ("lacks", ("ab", "S")))
        self.faulty(self.GRAMMAR, ["ab"], {**self.TABLE, ("ab", "S"): 5}, ("loose", ("ab", "S")))
        self.faulty(self.GRAMMAR, ["ab"], {**self.TABLE, ("a", "A"): 2}, ("lacks", ("a", "A")))
        # At ab ahead of b: by then 7 comes, as b is dearer.
        self.faulty(self.GRAMMAR, ["ab"], {**self.TABLE, ("b", "B"): 3}, ("loose", ("ab", "S")))
        self.faulty(self.GRAMMAR, ["ab"], {**self.TABLE, ("b", "B"): 1}, ("lacks", ("ab", "S")))

    def test_there_and_comes_from_nowhere(self):
        for key in (("ba", "S"), ("a", "S"), ("b", "A"), ("a/b", "B"), ("ab", "A")):
            self.faulty(self.GRAMMAR, ["ab"], {**self.TABLE, key: 3}, ("loose", key))

    def test_key_by_key_rising(self):
        self.faulty(self.GRAMMAR, ["ab"], {}, ("lacks", ("a", "A")))
        self.faulty(self.GRAMMAR, ["ab"], {("a", "A"): 1}, ("lacks", ("b", "B")))
        self.faulty(self.GRAMMAR, ["ab"], {("a", "A"): 1, ("b", "B"): 2}, ("lacks", ("ab", "S")))
        # Names rise as texts, not in the order of names().
        self.assertEqual(self.GRAMMAR.names()[0], "S")
        self.faulty(self.GRAMMAR, ["ab"], {**self.TABLE, ("a", "S"): 1, ("a", "B"): 1}, ("loose", ("a", "B")))
        self.faulty(self.GRAMMAR, ["ab"], {**self.TABLE, ("a", "S"): 1, ("a/b", "B"): 1}, ("loose", ("a", "S")))
        # By texts, not by cells: a/b is ahead of ab, and ab is ahead of b.
        self.faulty(self.GRAMMAR, ["ab"], {**self.TABLE, ("b", "B"): 7, ("ab", "S"): 11, ("a/b", "S"): 1},
                    ("loose", ("a/b", "S")))
        self.faulty(self.GRAMMAR, ["ab"], {**self.TABLE, ("b", "B"): 7, ("ab", "S"): 11}, ("lacks", ("b", "B")))

    def test_a_ring_that_comes_from_nowhere(self):
        ring = read_grammar(RING)
        self.faulty(ring, ["a"], {("a", "S"): 5, ("a", "T"): 4}, ("loose", ("a", "T")))
        self.faulty(ring, ["a"], {("a", "S"): 4, ("a", "T"): 5}, ("loose", ("a", "S")))
        self.faulty(ring, ["a"], {("a", "S"): 1, ("a", "T"): 1}, ("loose", ("a", "S")))
        self.faulty(ring, ["a"], {("a", "S"): 2}, ("loose", ("a", "S")))
        self.faulty(ring, ["a"], {("a", "T"): 2}, ("lacks", ("a", "S")))
        with_a_cell = read_grammar(RING + "\nS 9: a")
        self.faulty(with_a_cell, ["a"], {("a", "S"): 9, ("a", "T"): 10}, None)
        self.faulty(with_a_cell, ["a"], {("a", "S"): 2, ("a", "T"): 1}, ("loose", ("a", "T")))
        self.faulty(with_a_cell, ["a"], {("a", "S"): 2, ("a", "T"): 3}, ("loose", ("a", "S")))

    def test_no_ring_holds_itself_up(self):
        """Four pictures round by a quarter each, at whatever costs."""
        ring = read_grammar("signs ab\nstart S\nS 1: S turned 1\nS 1: S turned 3")
        for costs in itertools.product(range(1, 7), repeat=4):
            told = dict(zip([("ab", "S"), ("a/b", "S"), ("ba", "S"), ("b/a", "S")], costs))
            self.assertFalse(holds(ring, ["ab"], told))


class SlowlyTest(PaperTest):
    def test_each_table_changed_at_each_key(self):
        for text in GRAMMARS.values():
            grammar = read_grammar(text)
            for picture in (["ab"], ["a", "a"], ["ab", "ba"]):
                table = table_of(grammar, picture)
                changed = [without(table, key) for key in table]
                changed += [{**table, key: cost + by} for key, cost in table.items() for by in (1, -1, -cost, -cost - 4)]
                changed += [{**table, key: cost} for cost in (1, 9)
                            for key in itertools.product(sorted(seen_by_windows(picture)), grammar.names())
                            if key not in table]
                for told in changed:
                    self.faulty(grammar, picture, told, fault_by_words(grammar, picture, told))
                    self.assertIsNotNone(table_fault(grammar, picture, told))

    def test_some_dicts(self):
        chance = random.Random(27)
        found = {"key": 0, "lacks": 0, "loose": 0}
        for _ in range(150):
            grammar = random_grammar(chance, many=chance.randint(1, 12))
            picture = chance.choice(SMALL + LARGER)
            told = dict(table_of(grammar, picture))
            keys = list(itertools.product(sorted(seen_by_windows(picture)), grammar.names()))
            for _ in range(chance.randint(1, 4)):
                key = chance.choice(keys)
                told = chance.choice([without(told, key), {**told, key: chance.randint(1, 30)},
                                      {**told, key: told.get(key, 1) + chance.choice((-1, 1))},
                                      {**told, (chance.choice(["bbbb", "", "z"]), "S"): 1} if chance.random() < 0.3
                                      else told])
            fault = fault_by_words(grammar, picture, told)
            self.faulty(grammar, picture, told, fault)
            self.assertEqual(fault is None, told == table_of(grammar, picture))
            if fault is not None:
                found[fault[0]] += 1
        self.assertGreater(min(found.values()), 10)

    def test_six_by_six(self):
        picture = ["abcdab", "dcbaab", "bbadcc", "cdcdab", "abacad", "dddabc"]
        for grammar in large_grammars():
            told = table_of(grammar, picture)
            self.faulty(grammar, picture, told, None)
            last = max(told)
            self.faulty(grammar, picture, {**told, ("zz", "S"): 1}, ("key", ("zz", "S")))
            self.assertFalse(holds(grammar, picture, {**told, last: told[last] + 1}))
            self.assertFalse(holds(grammar, picture, without(told, last)))


if __name__ == "__main__":
    unittest.main()
