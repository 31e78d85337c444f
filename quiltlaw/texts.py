"""Rules and grammars read from texts."""

from quiltlaw.errors import NoRule, NoText
from quiltlaw.grammars import Grammar
from quiltlaw.rules import AboveRule, BesideRule, CellRule, TurnRule

FIGURES = "0123456789"
SIGNS_HEAD = "signs "
START_HEAD = "start "


def read_rule(text):
    """The rule that a text is. NoRule."""
    words = text.split(" ")
    if len(words) == 3:
        return CellRule(words[0], read_cost(words[1]), words[2])
    if len(words) != 5:
        raise NoRule("a rule has three words or five")
    name = words[0]
    cost = read_cost(words[1])
    if words[3] == "|":
        return BesideRule(name, cost, words[2], words[4])
    if words[3] == "/":
        return AboveRule(name, cost, words[2], words[4])
    if words[3] == "turned":
        return TurnRule(name, cost, words[2], read_figure(words[4]))
    raise NoRule("no kind of rule is written so")


def read_cost(word):
    """The number of a word that is one figure and a colon. NoRule."""
    if not word.endswith(":"):
        raise NoRule("a colon stands behind the cost")
    return read_figure(word[:-1])


def read_figure(word):
    """The number of a word that is one figure. NoRule."""
    if len(word) != 1 or word not in FIGURES:
        raise NoRule("one figure is asked for")
    return int(word)


def read_grammar(text):
    """The grammar that a text is. NoText with the first wrong row, then NoGrammar."""
    rows = text.split("\n")
    if not rows[0].startswith(SIGNS_HEAD):
        raise NoText(0)
    if len(rows) == 1 or not rows[1].startswith(START_HEAD):
        raise NoText(1)
    rules = [rule_in_row(k, row) for k, row in enumerate(rows) if k >= 2]
    return Grammar(rows[0][len(SIGNS_HEAD):], rows[1][len(START_HEAD):], rules)


def rule_in_row(k, row):
    """The rule that row k of a grammar's text is. NoText."""
    try:
        return read_rule(row)
    except NoRule:
        raise NoText(k) from None
