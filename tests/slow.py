"""What several tests reckon for themselves, slowly and in the document's own words."""

import itertools
import random

from quiltlaw.grammars import Grammar
from quiltlaw.rules import AboveRule, BesideRule, CellRule, TurnRule
from quiltlaw.texts import read_grammar

def pictures_of_size(signs, rows, columns):
    """All pictures of a size, rising."""
    texts = ["".join(row) for row in itertools.product(sorted(signs), repeat=columns)]
    return [list(rows) for rows in itertools.product(texts, repeat=rows)]


LETTERS = "abcdefghijklmnopqrstuvwxyz"

HEAD = "signs ab\nstart S\n"
GRAMMARS = {
    "no rules": HEAD[:-1],
    "cells alone": HEAD + "S 3: a\nA 2: b\nS 1: a",
    "beside": HEAD + "A 1: a\nB 2: b\nS 3: A | B\nS 4: S | S",
    "above": HEAD + "A 1: a\nB 2: b\nS 3: A / B\nS 4: S / S",
    "both": HEAD + "A 1: a\nA 2: b\nA 2: A | A\nS 1: A / A\nS 3: A | S",
    "turnings": HEAD + "A 1: a\nB 2: b\nC 3: A | B\n" + "\n".join(f"S {9 - t}: C turned {t}" for t in range(8)),
    "a ring of turnings": HEAD + "A 1: a\nB 2: b\nC 1: A | B\nC 1: C / A\nC 9: S turned 7\nS 2: T turned 1\n"
                          "T 1: S turned 1\nT 5: C turned 4\nS 1: T turned 6",
    "parts of its own name": HEAD + "S 1: a\nS 2: b\nS 1: S | S\nS 2: S / S\nS 1: S turned 1\nS 1: S turned 0",
    "names without a rule": HEAD + "S 1: a\nS 1: N | S\nS 1: S / N\nS 1: N turned 3\nM 1: S | S",
    "alike but for the cost": HEAD + "A 5: a\nA 2: a\nA 9: a\nS 3: A | A\nS 1: A | A\nS 3: A / A\nS 3: A / A",
    "dear cells, cheap turnings": HEAD + "A 9: a\nB 1: b\nA 1: B turned 0\nB 9: a\nS 1: A | B\nS 1: S turned 2\n"
                                  "S 9: A / B\nS 1: S | S",
}
# Every picture of at most two by two, and some of three.
SMALL = [picture for size in ((1, 1), (1, 2), (2, 1), (2, 2)) for picture in pictures_of_size("ab", *size)]
LARGER = [["aba"], ["a", "b", "b"], ["abb", "bab"], ["ab", "aa", "ba"], ["aab", "bab", "abb"], ["aaa", "aba", "aaa"]]


def sample(rows, columns, start=0):
    """A picture of this size whose cells differ as far as the letters reach."""
    return ["".join(LETTERS[(start + i * columns + j) % 26] for j in range(columns))
            for i in range(rows)]


def quarter_by_cells(picture):
    """A quarter in the very words of promise 9."""
    r, c = len(picture), len(picture[0])
    return ["".join(picture[r - 1 - j][i] for j in range(r)) for i in range(c)]


def turned_by_cells(picture, t):
    """A turning in the very words of promise 9."""
    if t >= 4:
        picture = [row[::-1] for row in picture]
    for _ in range(t % 4):
        picture = quarter_by_cells(picture)
    return picture


def put(rule, one, other):
    """What a beside or above rule makes of two pictures, None where they don't fit (8)."""
    if isinstance(rule, BesideRule):
        if len(one) == len(other) and len(one[0]) + len(other[0]) <= 6:
            return [one[i] + other[i] for i in range(len(one))]
    elif len(one[0]) == len(other[0]) and len(one) + len(other) <= 6:
        return [*one, *other]
    return None


def made_of(rule, pictures):
    """What any rule makes of its parts' pictures, None where they don't fit."""
    if isinstance(rule, CellRule):
        return [rule.sign]
    if isinstance(rule, TurnRule):
        return turned_by_cells(pictures[0], rule.turning)
    return put(rule, *pictures)


def numbers_by_words(tree):
    """A tree's numbers in the order of promise 20."""
    return [tree[0]] + [number for part in tree[1:] for number in numbers_by_words(part)]


def within_one_another(tree):
    """How many numbers of a tree stand within one another (17)."""
    return 1 + max([within_one_another(part) for part in tree[1:]], default=0)


def seen_by_windows(picture):
    """The texts of all pictures seen in a picture (11)."""
    rows, columns = len(picture), len(picture[0])
    return {"/".join(turned_by_cells([row[left:right] for row in picture[top:bottom]], t))
            for top, bottom in itertools.combinations(range(rows + 1), 2)
            for left, right in itertools.combinations(range(columns + 1), 2) for t in range(8)}


def made_within(grammar, most):
    """The least cost of each picture of at most so many rows and columns, by (text, name).

    Grown upwards from the cells, by putting together whatever is made so far
    until nothing is made more cheaply: no picture is ever taken apart here.
    """
    least, grew = {}, True
    while grew:
        grew = False
        for rule in grammar.rules():
            choices = [[(text.split("/"), cost) for (text, name), cost in least.items() if name == part]
                       for part in rule.parts()]
            for chosen in itertools.product(*choices):
                picture = made_of(rule, [picture for picture, _ in chosen])
                if picture is None or max(len(picture), len(picture[0])) > most:
                    continue
                key = ("/".join(picture), rule.name)
                cost = rule.cost + sum(cost for _, cost in chosen)
                if cost < least.get(key, cost + 1):
                    least[key], grew = cost, True
    return least


def trees_up_to(grammar, most):
    """All trees without a fault that cost at most so much, as (name, cost, tree, picture)."""
    found = {cost: [] for cost in range(most + 1)}
    for cost in range(1, most + 1):
        for number, rule in enumerate(grammar.rules()):
            left = cost - rule.cost
            if not rule.parts():
                handed = [()] if left == 0 else []
            elif len(rule.parts()) == 1:
                handed = [(one,) for one in found[left]] if left > 0 else []
            else:
                handed = [two for c in range(1, left) for two in itertools.product(found[c], found[left - c])]
            for parts in handed:
                if [part[0] for part in parts] == rule.parts():
                    picture = made_of(rule, [part[3] for part in parts])
                    if picture is not None:
                        tree = (number, *[part[2] for part in parts])
                        found[cost].append((rule.name, cost, tree, picture))
    return [tree for trees in found.values() for tree in trees]


def place_in_row(grammar, tree, facts):
    """What the trees of a row are ordered by, in the very words of promise 26.

    Of each part the facts are (cost, picture).
    """
    parts = [place_in_row(grammar, part, facts) for part in tree[1:]]
    if len(parts) == 2:
        cost, picture = facts[tree[1]]
        rule = grammar.rule(tree[0])
        return (tree[0], len(picture[0]) if isinstance(rule, BesideRule) else len(picture), cost, *parts)
    return (tree[0], *parts)


def rows_by_words(grammar, most):
    """The rows of trees up to a cost, by (name, rows, columns, cost), each in the order of promise 26."""
    found = trees_up_to(grammar, most)
    facts = {tree: (cost, picture) for _, cost, tree, picture in found}
    rows = {}
    for name, cost, tree, picture in found:
        rows.setdefault((name, len(picture), len(picture[0]), cost), []).append(tree)
    return {row: sorted(trees, key=lambda tree: place_in_row(grammar, tree, facts)) for row, trees in rows.items()}


def coming(grammar, told, key):
    """The costs that come for a key (23), in the order of promise 24: (cost, number, part keys)."""
    text, name = key
    picture, found = text.split("/"), []
    for number, rule in enumerate(grammar.rules()):
        if rule.name != name:
            continue
        if isinstance(rule, CellRule):
            ways = [[]] if text == rule.sign else []
        elif isinstance(rule, BesideRule):
            ways = [[[row[:at] for row in picture], [row[at:] for row in picture]]
                    for at in range(1, len(picture[0]))]
        elif isinstance(rule, AboveRule):
            ways = [[picture[:at], picture[at:]] for at in range(1, len(picture))]
        else:
            # The one picture among the eight that the turning takes to this one.
            ways = [[next(turned for turned in [turned_by_cells(picture, t) for t in range(8)]
                          if turned_by_cells(turned, rule.turning) == picture)]]
        for way in ways:
            keys = [("/".join(part), part_name) for part, part_name in zip(way, rule.parts())]
            if all(part in told for part in keys):
                found.append((rule.cost + sum(told[part] for part in keys), number, keys))
    return found


def first_by_words(grammar, told, key):
    """The first tree in the very words of promise 24, however large; None where there is none."""
    if key not in told:
        return None
    number, keys = next((number, keys) for cost, number, keys in coming(grammar, told, key) if cost == told[key])
    return (number, *[first_by_words(grammar, told, part) for part in keys])


def random_grammar(chance, signs="ab", names="SABC", many=8):
    """Some grammar of so many rules and a cell rule for each sign; chance is a random.Random with a seed."""
    rules = [CellRule(chance.choice(names), chance.randint(1, 3), sign) for sign in signs]
    for _ in range(many):
        name, cost = chance.choice(names), chance.randint(1, 9)
        one, other = chance.choice(names), chance.choice(names)
        rules.append(chance.choice([
            CellRule(name, cost, chance.choice(signs)), BesideRule(name, cost, one, other),
            AboveRule(name, cost, one, other), TurnRule(name, cost, one, chance.randint(0, 7))]))
    return Grammar(signs, names[0], rules)


def large_grammars():
    """Two grammars of 24 rules and eight names: many ways to put together, many turnings."""
    chance = random.Random(36)
    names = "STABCDEF"
    first = ["S 1: a", "S 1: b", "S 2: c", "T 1: d", "S 1: S | S", "S 2: S / S"]
    some = first + [f"{chance.choice(names)} {chance.randint(1, 9)}: {chance.choice(names)} "
                    f"{chance.choice('|/')} {chance.choice(names)}" for _ in range(18)]
    turns = first + [f"{names[k % 8]} {chance.randint(1, 9)}: {names[(k + 1) % 8]} turned {chance.randint(0, 7)}"
                     for k in range(18)]
    return [read_grammar("signs abcd\nstart S\n" + "\n".join(rows)) for rows in (some, turns)]
