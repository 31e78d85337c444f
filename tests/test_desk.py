"""Promises 2 and 32: quiltlaw.desk."""

import functools
import inspect
import itertools
import random
import unittest

from slow import GRAMMARS, first_by_words, large_grammars, made_within, numbers_by_words, random_grammar, rows_by_words

from quiltlaw import desk
from quiltlaw.best import first_tree
from quiltlaw.counts import count_trees, tree_at
from quiltlaw.desk import Desk
from quiltlaw.errors import (NoGrammar, NoNumber, NoPicture, NoRow, NoRule, NoTree, NoWord, QuiltError, TooMany)
from quiltlaw.grammars import Grammar
from quiltlaw.joining import turned_grammar
from quiltlaw.sizes import pictures_of
from quiltlaw.tables import least_cost
from quiltlaw.texts import read_grammar, read_rule
from quiltlaw.thinning import thinned
from quiltlaw.treetexts import shown_tree

# Enough to be asked by each kind of row.
ROWS = ["signs ab", "rule A 1: a", "rule B 2: b", "rule S 3: A | B", "rule S 4: S / S", "rule S 5: S turned 1",
        "rule N 1: N | A"]
# Rows of text that ask and change nothing; what they answer tells what a desk keeps.
PROBES = ["make a", "make ab", "make ab/ab", "make b/a", "make aa", "lay 0", "lay 2 0 1", "lay 5 0 0", "count 1 1 1",
          "count 1 2 6", "count 2 2 16", "pick 1 2 6 0", "list 1 1", "list 2 1"]
# Rows that no desk knows, whatever it keeps.
NO_ROWS = [
    "", " ", "  ", "a", "signs", "start", "rule", "make", "lay", "Signs ab", "SIGNS ab", "sign ab", "makes a", " make a",
    " signs ab", "tell", "told", "make\ta", "join a", "help", "S 1: a", "make/ab", "signsab", "rules 3",
    "drop", "drop ", "drop  0", "drop 0 ", " drop 0", "drop 0 0", "drop 0 1", "drop 00", "drop 01", "drop 007", "drop 1000",
    "drop 0000", "drop -1", "drop +1", "drop a", "drop 1a", "drop 1.", "drop 1_0", "drop A", "drop 0x1", "dropp 0",
    "count", "count ", "count 1", "count 1 1", "count 1 1 1 1", "count 1 1 1 ", "count 1  1 1", "count  1 1 1",
    "count 0 1 1", "count 1 0 1", "count 1 1 0", "count 7 1 1", "count 1 7 1", "count 1 1 17", "count 1 1 100",
    "count 999 1 1", "count 01 1 1", "count 1 01 1", "count 1 1 01", "count 1 1 016", "count 1 1 1000", "count a 1 1",
    "count 1 b 1", "count 1 1 c", "count -1 1 1", "count 1 1 -1", "count 1/1/1", "count 1,1,1",
    "pick", "pick 1 1 1", "pick 1 1 1 0 0", "pick 1 1 1 ", "pick 1 1 1  0", "pick 1 1 1 0 ", "pick 1 1 1 00",
    "pick 1 1 1 01", "pick 1 1 1 1000", "pick 1 1 1 -1", "pick 1 1 1 k", "pick 0 1 1 0", "pick 7 1 1 0", "pick 1 0 1 0",
    "pick 1 7 1 0", "pick 1 1 0 0", "pick 1 1 17 0", "pick 1 1 1 0000",
    "list", "list ", "list 1", "list 1 ", "list 1 1 ", "list 1 1 1", "list  1 1", "list 0 1", "list 1 0", "list 7 1",
    "list 1 7", "list 01 1", "list 1 01", "list 1 a", "list -1 1", "list 11", "list 1x1", "list 1 1000",
    "turn", "turn ", "turn 8", "turn 9", "turn 10", "turn 00", "turn 07", "turn -1", "turn 1 1", "turn 1 ", "turn  1",
    "turn a", "turn 100", "turn 1000", "turns 1",
    "thin ", " thin", "thin 0", "thin 1", "thin a", "thinn", "Thin", "THIN", "thinned",
]


def desk_of(*rows):
    """A desk that was told these rows."""
    made = Desk()
    for row in rows:
        made.told(row)
    return made


def desk_with(grammar):
    """A desk that keeps a grammar."""
    made = desk_of("signs " + grammar.signs, *["rule " + rule.told() for rule in grammar.rules()])
    made.told("start " + grammar.start)
    return made


def kept_by(asked):
    """What a desk answers to all probes, and behind them, as it is emptied, its rules."""
    answers = []
    for probe in PROBES:
        try:
            answers.append(asked.told(probe))
        except QuiltError as e:
            answers.append((type(e), vars(e)))
    rules = []
    while True:
        try:
            rules.append(asked.told("drop 0"))
        except NoNumber:
            return answers, rules


@functools.cache
def kept_behind(rows):
    """What a desk keeps that was told these rows."""
    return kept_by(desk_of(*rows))


class InterfaceTest(unittest.TestCase):
    def test_names_and_arguments(self):
        self.assertEqual(list(inspect.signature(desk.Desk).parameters), [])
        self.assertEqual(list(inspect.signature(desk.Desk.told).parameters), ["self", "row"])


class DeskTest(unittest.TestCase):
    def answers(self, asked, *pairs):
        for row, answer in pairs:
            with self.subTest(row=row):
                told = asked.told(row)
                self.assertEqual(told, answer)
                self.assertIs(type(told), str)

    def refused(self, error, value, rows, row):
        """A row is refused, and leaves a desk as it was."""
        asked = desk_of(*rows)
        with self.subTest(row=row):
            with self.assertRaises(QuiltError) as caught:
                asked.told(row)
            self.assertIs(type(caught.exception), error)
            self.assertEqual(error.__bases__, (QuiltError,))
            if value is not None:
                self.assertEqual(vars(caught.exception), value)
            self.assertEqual(kept_by(asked), kept_behind(tuple(rows)))


class ChangingTest(DeskTest):
    def test_at_first(self):
        self.answers(Desk(), ("make a", "not made"), ("make aa/aa", "not made"), ("count 1 1 1", "trees 0"),
                     ("list 1 1", "pictures 0"), ("list 6 6", "pictures 0"), ("thin", "rules 0"), ("turn 3", "turned 3"))
        self.refused(NoPicture, {"why": ("sign", 0, 0)}, [], "make b")
        self.refused(NoGrammar, {"why": ("sign", 0)}, [], "rule S 1: b")
        self.answers(Desk(), ("rule S 1: a", "rule 0"), ("make a", "made 1 by 0"))

    def test_signs(self):
        asked = desk_of(*ROWS)
        self.answers(asked, ("signs ba", "signs ba"), ("make ab", "not made"), ("list 1 1", "pictures 0"),
                     ("thin", "rules 0"), ("rule S 1: b", "rule 0"), ("make b", "made 1 by 0"))
        self.answers(asked, ("start T", "start T"), ("signs zyxw", "signs zyxw"), ("rule S 2: w", "rule 0"),
                     ("make w", "made 2 by 0"))
        self.refused(NoNumber, None, [*ROWS, "signs ab"], "drop 0")

    def test_start(self):
        asked = desk_of(*ROWS)
        self.answers(asked, ("make a", "not made"), ("start A", "start A"), ("make a", "made 1 by 0"),
                     ("make ab", "not made"), ("start ZZZZ", "start ZZZZ"), ("make a", "not made"),
                     ("start S", "start S"), ("make ab", "made 6 by 2 0 1"), ("lay 0", "A makes a at 1"))

    def test_rule(self):
        asked = desk_of("signs ab")
        for k in range(24):
            self.answers(asked, (f"rule S {k % 9 + 1}: {'ab'[k % 2]}", f"rule {k}"))
        self.answers(asked, ("drop 23", "S 6: b"), ("rule S 9: S turned 7", "rule 23"), ("drop 0", "S 1: a"))

    def test_drop(self):
        asked = desk_of(*ROWS)
        self.answers(asked, ("drop 2", "S 3: A | B"), ("make ab", "not made"), ("drop 2", "S 4: S / S"),
                     ("drop 3", "N 1: N | A"), ("drop 2", "S 5: S turned 1"), ("drop 0", "A 1: a"),
                     ("rule S 1: a", "rule 1"), ("drop 0", "B 2: b"), ("make a", "made 1 by 0"), ("drop 0", "S 1: a"))
        self.answers(desk_of(*ROWS), ("drop 0", "A 1: a"), ("lay 0", "B makes b at 2"), ("make ab", "not made"))

    def test_drop_makes_room_for_names(self):
        rows = [f"rule {name} 1: a" for name in "ABCDEFG"]
        self.refused(NoGrammar, {"why": ("names", 9)}, rows, "rule H 1: a")
        self.answers(desk_of(*rows), ("drop 3", "D 1: a"), ("rule H 1: a", "rule 6"))

    def test_turn(self):
        asked = desk_of(*ROWS)
        self.answers(asked, ("turn 1", "turned 1"), ("make a/b", "made 6 by 2 0 1"), ("make ab", "made 21 by 4 4 4 2 0 1"),
                     ("turn 0", "turned 0"), ("drop 2", "S 3: A / B"), ("drop 2", "S 4: S | S"),
                     ("drop 2", "S 5: S turned 1"), ("drop 2", "N 1: N / A"))
        self.answers(desk_of(*ROWS), ("turn 4", "turned 4"), ("make ba", "made 6 by 2 1 0"), ("turn 7", "turned 7"),
                     ("drop 4", "S 5: S turned 1"))
        for t in range(8):
            self.answers(desk_of(*ROWS), (f"turn {t}", f"turned {t}"), ("count 1 1 1", "trees 0"), ("lay 0", "A makes a at 1"))

    def test_thin(self):
        asked = desk_of(*ROWS)
        self.answers(asked, ("thin", "rules 5"), ("thin", "rules 5"), ("rule N 1: a", "rule 5"), ("thin", "rules 5"),
                     ("start A", "start A"), ("thin", "rules 1"), ("drop 0", "A 1: a"), ("thin", "rules 0"))
        self.answers(desk_of(*ROWS, "start N"), ("thin", "rules 0"), ("rule N 1: b", "rule 0"), ("make b", "made 1 by 0"))


class AskingTest(DeskTest):
    def test_make(self):
        self.answers(desk_of(*ROWS), ("make ab", "made 6 by 2 0 1"), ("make ab/ab", "made 16 by 3 2 0 1 2 0 1"),
                     ("make a/b", "made 11 by 4 2 0 1"), ("make a", "not made"), ("make aaaaaa/aaaaaa", "not made"))
        self.answers(desk_of("signs z", *["rule S 9: z"] * 12, "rule S 1: z"), ("make z", "made 1 by 12"))

    def test_make_in_the_very_words(self):
        for text in GRAMMARS.values():
            grammar = read_grammar(text)
            least = made_within(grammar, 2)
            asked = desk_with(grammar)
            for written in ("a", "b", "ab", "ba", "a/b", "aa", "ab/ba", "aa/bb", "bb/bb"):
                tree = first_by_words(grammar, least, (written, "S"))
                answer = "not made"
                if tree is not None:
                    numbers = " ".join(str(number) for number in numbers_by_words(tree))
                    answer = f"made {least[(written, 'S')]} by {numbers}"
                self.answers(asked, ("make " + written, answer))

    def test_lay(self):
        self.answers(desk_of(*ROWS), ("lay 0", "A makes a at 1"), ("lay 1", "B makes b at 2"),
                     ("lay 2 0 1", "S makes ab at 6"), ("lay 3 2 0 1 2 0 1", "S makes ab/ab at 16"),
                     ("lay 4 4 2 0 1", "S makes ba at 16"), ("lay 4 3 2 0 1 2 0 1", "S makes aa/bb at 21"))
        self.answers(desk_of("rule A 1: a", *["rule A 9: A turned 0"] * 12, "rule WXYZ 1: A turned 0"),
                     ("lay " + " ".join(["13"] + ["12"] * 58 + ["0"]), "WXYZ makes a at 524"))

    def test_count_and_pick(self):
        self.answers(desk_of(*ROWS), ("count 1 2 6", "trees 1"), ("pick 1 2 6 0", "2 0 1"), ("count 2 1 11", "trees 1"),
                     ("pick 2 1 11 0", "4 2 0 1"), ("count 1 1 1", "trees 0"), ("count 6 6 16", "trees 0"))
        alike = desk_of(*["rule S 1: a"] * 11, "rule S 1: S | S")
        self.answers(alike, ("count 1 1 1", "trees 11"), ("pick 1 1 1 10", "10"), ("pick 1 2 3 12", "11 1 1"),
                     ("count 1 3 5", "trees 2662"), ("pick 1 3 5 999", "11 8 11 2 9"), ("pick 1 3 5 0", "11 0 11 0 0"),
                     ("count 1 6 11", f"trees {11 ** 6 * 42}"))

    def test_count_and_pick_in_the_very_words(self):
        for text in GRAMMARS.values():
            grammar = read_grammar(text)
            rows = rows_by_words(grammar, 7)
            asked = desk_with(grammar)
            for r, c, cost in itertools.product((1, 2), (1, 2), range(1, 8)):
                trees = rows.get(("S", r, c, cost), [])
                self.answers(asked, (f"count {r} {c} {cost}", f"trees {len(trees)}"))
                for k, tree in enumerate(trees):
                    self.answers(asked, (f"pick {r} {c} {cost} {k}", " ".join(map(str, numbers_by_words(tree)))))

    def test_list(self):
        self.answers(desk_of(*ROWS), ("list 1 2", "pictures 2 ab 6 ba 16"), ("list 2 1", "pictures 2 a/b 11 b/a 21"),
                     ("list 1 1", "pictures 0"), ("list 1 3", "pictures 0"))
        self.answers(desk_of("signs ba", "rule S 3: b", "rule S 1: a"), ("list 1 1", "pictures 2 a 1 b 3"))
        self.answers(desk_of("rule S 1: a", "rule S 1: S | S", "rule S 9: S / S"),
                     ("list 6 6", "pictures 1 " + "/".join(["aaaaaa"] * 6) + f" {36 + 30 + 45}"))

    def test_list_as_many_as_are_told(self):
        asked = desk_of("signs ab", "rule S 1: a", "rule S 2: b", "rule S 1: S | S", "rule S 1: S / S")
        told = asked.told("list 2 4").split(" ")
        self.assertEqual(told[:4], ["pictures", "256", "aaaa/aaaa", "15"])
        self.assertEqual(told[-2:], ["bbbb/bbbb", "23"])
        self.assertEqual(len(told), 2 + 2 * 256)
        self.assertEqual(told[2::2], sorted(told[2::2]))

    def test_by_the_start(self):
        asked = desk_of(*ROWS, "start B")
        self.answers(asked, ("make b", "made 2 by 1"), ("count 1 1 2", "trees 1"), ("pick 1 1 2 0", "1"),
                     ("list 1 1", "pictures 1 b 2"), ("make ab", "not made"), ("lay 2 0 1", "S makes ab at 6"))


class RefusedTest(DeskTest):
    def test_no_row(self):
        for row in NO_ROWS:
            self.refused(NoRow, None, ROWS, row)
        for row in NO_ROWS[::5]:
            self.refused(NoRow, None, [], row)

    def test_no_row_for_each_number(self):
        """Each figure in its range is a row, each out of it is none."""
        ranges = {"count": (6, 6, 16), "pick": (6, 6, 16, None), "list": (6, 6)}
        for word, greatest in ranges.items():
            for at, most in enumerate(greatest):
                for number in range(0, 20):
                    words = ["1"] * len(greatest)
                    words[at] = str(number)
                    row = " ".join([word, *words])
                    try:
                        told = desk_of("rule S 1: a").told(row)
                    except QuiltError as e:
                        told = type(e)
                    inside = most is None or 1 <= number <= most
                    self.assertEqual(told is NoRow, not inside, row)

    def test_no_row_for_each_sign(self):
        for sign in map(chr, range(32, 127)):
            for row in (f"turn {sign}", f"drop 1{sign}", f"count 1 1 {sign}", f"list {sign} 1", f"pick 1 1 1 {sign}"):
                if sign not in "0123456789":
                    self.refused(NoRow, None, ["rule S 1: a"], row)

    def test_no_rule(self):
        for text in ("", " ", "S", "S 1: ", "S 0: a", "S 10: a", "S 1:a", "S 1: A", "S 1: ab", "s 1: a", "S 1: A |B",
                     "S 1: A | ", "S 1: A turned 8", "S 1: A turned 01", "S 01: a", "S  1: a", " S 1: a", "S 1: a ",
                     "ABCDE 1: a", "S 1: A turned", "S 1: A / B / C", "S -1: a", "S 1: A + B"):
            self.refused(NoRule, None, ROWS, "rule " + text)
            self.refused(NoRule, None, ["signs q", *["rule S 1: q"] * 24], "rule " + text)

    def test_no_grammar_for_signs(self):
        for text in ("", " ", "abcde", "aa", "A", "aB", "a b", "ab ", " ab", "a1", "abcda", "1"):
            self.refused(NoGrammar, {"why": ("signs",)}, ROWS, "signs " + text)

    def test_no_grammar_for_a_start(self):
        for text in ("", " ", "s", "ABCDE", "S ", " S", "S T", "A1", "1", "Sa"):
            self.refused(NoGrammar, {"why": ("start",)}, ROWS, "start " + text)
        names = [f"rule {name} 1: a" for name in "ABCDEFG"]
        self.refused(NoGrammar, {"why": ("names", 9)}, ["start A", *names, "rule S 1: a"], "start T")
        self.answers(desk_of("start A", *names, "rule S 1: a"), ("start G", "start G"), ("make a", "made 1 by 6"))

    def test_no_grammar_for_a_rule(self):
        self.refused(NoGrammar, {"why": ("sign", 6)}, ROWS, "rule S 1: c")
        self.refused(NoGrammar, {"why": ("rules", 25)}, ["rule S 1: a"] * 24, "rule S 1: a")
        self.refused(NoGrammar, {"why": ("rules", 25)}, ["rule S 1: a"] * 24, "rule S 1: z")
        names = [f"rule {name} 1: a" for name in "ABCDEFG"]
        self.refused(NoGrammar, {"why": ("names", 9)}, names, "rule S 1: H turned 1")
        self.refused(NoGrammar, {"why": ("names", 10)}, names, "rule S 1: H | I")
        self.refused(NoGrammar, {"why": ("sign", 7)}, names, "rule H 1: b")

    def test_no_number(self):
        for rows, row in ((ROWS, "drop 6"), (ROWS, "drop 7"), (ROWS, "drop 24"), (ROWS, "drop 999"), ([], "drop 0"),
                          (ROWS, "pick 1 2 6 1"), (ROWS, "pick 1 2 6 999"), (ROWS, "pick 1 1 1 0"),
                          (ROWS, "pick 6 6 16 0"), ([], "pick 1 1 1 0")):
            self.refused(NoNumber, None, rows, row)
        self.answers(desk_of(*ROWS), ("drop 5", "N 1: N | A"))

    def test_no_picture(self):
        for text, why in (("", ("row", 0)), ("c", ("sign", 0, 0)), ("abc", ("sign", 0, 2)), ("ab/a", ("row", 1)),
                          ("ab/", ("row", 1)), ("/ab", ("row", 0)), (" ab", ("sign", 0, 0)), ("ab ", ("sign", 0, 2)),
                          ("a b", ("sign", 0, 1)), ("ab/ba/aA", ("sign", 2, 1)), ("aaaaaaa", ("row", 0)),
                          ("a/a/a/a/a/a/a", ("rows", 7)), ("/" * 39, ("rows", 40)), ("a\\b", ("sign", 0, 1)),
                          ("ab|ab", ("sign", 0, 2)), ("/", ("row", 0))):
            self.refused(NoPicture, {"why": why}, ROWS, "make " + text)

    def test_no_word(self):
        for text, at in (("", 0), (" ", 0), ("6", 0), ("-1", 0), ("00", 0), ("a", 0), ("0 ", 1), (" 0", 0), ("2", 1),
                         ("2 0", 2), ("2 0 1 0", 3), ("2 0  1", 2), ("2 0 01", 2), ("0 0", 1), ("3 2 0 1", 4),
                         ("2 x 1", 1), (" ".join(["4"] * 61), 60), (" ".join(["4"] * 60), 60), ("999", 0)):
            self.refused(NoWord, {"at": at}, ROWS, "lay " + text)
        self.refused(NoWord, {"at": 0}, [], "lay 0")

    def test_no_tree(self):
        for text, why in (("2 1 0", ("name", (0,))), ("2 0 0", ("name", (1,))), ("4 0", ("name", (0,))),
                          ("3 2 0 1 4 2 0 1", ("fit", ())), ("4 3 4 2 0 1 2 0 1", ("fit", (0,)))):
            self.refused(NoTree, {"why": why}, ROWS, "lay " + text)
        # Words that are no tree ahead of a tree that has a fault.
        self.refused(NoWord, {"at": 3}, ROWS, "lay 2 1 0 0")

    def test_too_many_by_make(self):
        rows = ["signs ab", "rule S 1: S | S", "rule S 1: S / S", "rule S 1: A turned 0", "rule A 1: B turned 0",
                "rule B 1: C turned 0", "rule C 1: D turned 0", "rule D 1: E turned 0", "rule E 1: a"]
        self.refused(TooMany, None, rows, "make " + "/".join(["aaaaaa"] * 6))
        self.refused(NoPicture, {"why": ("sign", 5, 5)}, rows, "make " + "/".join(["aaaaaa"] * 5 + ["aaaaac"]))
        self.answers(desk_of(*rows), ("make " + "/".join(["aaaaab"] * 6), "not made"))

    def test_too_many_by_list(self):
        for signs, size in (("ab", "3 3"), ("ab", "6 6"), ("abc", "1 6"), ("abcd", "1 5"), ("abcd", "6 6")):
            self.refused(TooMany, None, ["signs " + signs], "list " + size)

    def test_never_too_many_by_count_and_pick(self):
        asked = desk_of(*["rule S 1: a"] * 22, "rule S 1: S | S", "rule S 1: S / S")
        self.answers(asked, ("count 1 6 11", f"trees {22 ** 6 * 42}"), ("pick 2 2 7 0", "22 23 0 0 23 0 0"),
                     ("count 2 2 7", f"trees {22 ** 4 * 2}"))


class OwnTest(DeskTest):
    def test_desks_do_not_touch_one_another(self):
        one, other = desk_of(*ROWS), Desk()
        self.answers(other, ("make a", "not made"), ("rule S 1: a", "rule 0"), ("make a", "made 1 by 0"))
        self.answers(one, ("make ab", "made 6 by 2 0 1"), ("drop 0", "A 1: a"))
        self.answers(other, ("make a", "made 1 by 0"), ("start T", "start T"))
        self.answers(one, ("lay 0", "B makes b at 2"))
        self.assertEqual(kept_by(Desk()), kept_by(Desk()))

    def test_asking_changes_nothing(self):
        asked = desk_of(*ROWS)
        for row in PROBES * 2:
            try:
                asked.told(row)
            except QuiltError:
                pass
        self.assertEqual(kept_by(asked), kept_by(desk_of(*ROWS)))


class ManyRowsTest(DeskTest):
    """Rows of all kinds, one behind the other."""

    def some_row(self, chance):
        kind = chance.randint(0, 9)
        letters, names = "abc", ["S", "A", "B", "C"]
        if kind <= 3:
            rule = chance.choice(random_grammar(chance, letters, names, 3).rules())
            return "rule " + rule.told()
        if kind == 4:
            return chance.choice([f"drop {chance.randint(0, 9)}", f"start {chance.choice(names)}"])
        if kind == 5:
            picture = "/".join(["".join(chance.choice("ab") for _ in range(chance.randint(1, 2)))] * chance.randint(1, 2))
            return "make " + picture
        if kind == 6:
            return "lay " + " ".join(str(chance.randint(0, 6)) for _ in range(chance.randint(1, 3)))
        if kind == 7:
            return f"count {chance.randint(1, 3)} {chance.randint(1, 3)} {chance.randint(1, 16)}"
        if kind == 8:
            return chance.choice([*[f"pick 1 1 {chance.randint(1, 4)} {k}" for k in (0, 0, 0, 1)],
                                  f"list {chance.randint(1, 2)} {chance.randint(1, 2)}"])
        return chance.choice([f"turn {chance.randint(0, 8)}", "thin" if chance.random() < 0.3 else "thick", "signs abcd"
                              if chance.random() < 0.2 else "signs aa", "", "make", "rule S 1: z", "start s"])

    def by_functions(self, grammar, row):
        """The grammar behind a row and its answer, by the functions that the row speaks of."""
        word, _, text = row.partition(" ")
        numbers = [int(number) for number in text.split(" ") if number.isdigit()]
        start = grammar.start
        if word == "signs":
            return Grammar(text, "S", []), row
        if word == "start":
            return Grammar(grammar.signs, text, grammar.rules()), row
        if word == "rule":
            return Grammar(grammar.signs, start, [*grammar.rules(), read_rule(text)]), f"rule {grammar.many()}"
        if word == "drop":
            rules = grammar.rules()
            return Grammar(grammar.signs, start, rules[:numbers[0]] + rules[numbers[0] + 1:]), rules[numbers[0]].told()
        if word == "turn":
            return turned_grammar(grammar, numbers[0]), f"turned {numbers[0]}"
        if word == "thin":
            return thinned(grammar), f"rules {thinned(grammar).many()}"
        if word == "make":
            tree = first_tree(grammar, text.split("/"))
            cost = least_cost(grammar, text.split("/"))
            return grammar, "not made" if tree is None else f"made {cost} by {shown_tree(tree)}"
        if word == "count":
            return grammar, f"trees {count_trees(grammar, start, *numbers)}"
        if word == "pick":
            return grammar, shown_tree(tree_at(grammar, start, *numbers))
        if word == "list":
            found = pictures_of(grammar, start, *numbers)
            return grammar, " ".join([f"pictures {len(found)}", *[f"{'/'.join(rows)} {cost}" for rows, cost in found]])
        return grammar, None

    def test_many_rows(self):
        chance = random.Random(32)
        answered, refused = {}, 0
        for _ in range(25):
            asked, grammar = desk_of("signs abc"), Grammar("abc", "S", [])
            accepted = ["signs abc"]
            for _ in range(60):
                row = self.some_row(chance)
                try:
                    answer = asked.told(row)
                except QuiltError:
                    refused += 1
                    continue
                accepted.append(row)
                grammar, by_functions = self.by_functions(grammar, row)
                if by_functions is not None:
                    self.assertEqual(answer, by_functions, row)
                word = row.partition(" ")[0]
                answered[word] = answered.get(word, 0) + 1
            self.assertEqual(kept_by(asked), kept_by(desk_of(*accepted)))
        self.assertEqual(set(answered), {"signs", "start", "rule", "drop", "make", "lay", "count", "pick", "list", "turn",
                                         "thin"})
        self.assertGreater(min(answered.values()), 5, answered)
        self.assertGreater(refused, 100)

    def test_large(self):
        picture = "/".join(["abcdab", "dcbaab", "bbadcc", "cdcdab", "abacad", "dddabc"])
        for grammar in large_grammars():
            asked = desk_with(grammar)
            tree = first_tree(grammar, picture.split("/"))
            answer = "not made"
            if tree is not None:
                answer = f"made {least_cost(grammar, picture.split('/'))} by {shown_tree(tree)}"
            self.answers(asked, ("make " + picture, answer), ("count 6 6 16", "trees 0"))
            for size in ("1 6", "2 4", "4 2", "3 2"):
                many = int(asked.told(f"count {size} 16").split(" ")[1])
                if many:
                    asked.told(f"pick {size} 16 {min(many, 1000) - 1}")
            self.assertTrue(asked.told("list 2 2").startswith("pictures "))
            for t in range(8):
                self.answers(asked, (f"turn {t}", f"turned {t}"))
            self.answers(asked, ("thin", f"rules {thinned(grammar).many()}"))


if __name__ == "__main__":
    unittest.main()
