"""Grammars turned as a whole, and two grammars joined."""

from quiltlaw.errors import NoGrammar, NoRule, TooMany
from quiltlaw.grammars import Grammar
from quiltlaw.rules import CAPITALS, AboveRule, BesideRule, TurnRule

JOINED_START = "J"
FIRST_LETTER = "F"
SECOND_LETTER = "S"


def turned_grammar(grammar, t):
    """The grammar by which each name makes what it made, turned by t, at the same costs."""
    return Grammar(grammar.signs, grammar.start, [rule.turned_whole(t) for rule in grammar.rules()])


def joined(one, other, way):
    """The grammar of two and of a start that joins theirs: either, beside or above. NoRule, TooMany."""
    first = new_names(one, FIRST_LETTER)
    second = new_names(other, SECOND_LETTER)
    rules = joining_rules(first[one.start], second[other.start], way)
    rules.extend([rule.renamed(first) for rule in one.rules()])
    rules.extend([rule.renamed(second) for rule in other.rules()])
    signs = one.signs + "".join([sign for sign in other.signs if sign not in one.signs])
    try:
        return Grammar(signs, JOINED_START, rules)
    except NoGrammar:
        # Two grammars are in good form, so that nothing but too many can be wrong here.
        raise TooMany("too many signs, rules or names") from None


def new_names(grammar, letter):
    """For each name of a grammar, in their order, the letter and behind it A, B and so on."""
    names = {}
    for k, name in enumerate(grammar.names()):
        names[name] = letter + CAPITALS[k]
    return names


def joining_rules(first, second, way):
    """The rules of the new start, of both starts under their new names. NoRule."""
    if way == "either":
        return [TurnRule(JOINED_START, 1, first, 0), TurnRule(JOINED_START, 1, second, 0)]
    if way == "beside":
        return [BesideRule(JOINED_START, 1, first, second)]
    if way == "above":
        return [AboveRule(JOINED_START, 1, first, second)]
    raise NoRule("a way is either, beside or above")
