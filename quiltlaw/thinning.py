"""Grammars without what is of no use."""

from quiltlaw.grammars import Grammar


def of_use(grammar):
    """The names that are of use by themselves, in the order of names()."""
    found = {}
    # Each time through the rules finds a further name, as long as there is one.
    for step in range(len(grammar.names())):
        for rule in grammar.rules():
            if all_among(rule.parts(), found):
                found[rule.name] = True
    return [name for name in grammar.names() if name in found]


def come_to(grammar):
    """The names that are come to from the start, in the order of names()."""
    found = {grammar.start: True}
    rules = rules_of_use(grammar)
    # Each time through the rules finds a further name, as long as there is one.
    for step in range(len(grammar.names())):
        for rule in rules:
            if rule.name in found:
                for part in rule.parts():
                    found[part] = True
    return [name for name in grammar.names() if name in found]


def thinned(grammar):
    """The grammar of just those rules that a tree of the start can have."""
    names = come_to(grammar)
    rules = [rule for rule in rules_of_use(grammar) if rule.name in names]
    return Grammar(grammar.signs, grammar.start, rules)


def rules_of_use(grammar):
    """The rules all of whose parts are of use by themselves, in their order."""
    names = of_use(grammar)
    return [rule for rule in grammar.rules() if all_among(rule.parts(), names)]


def all_among(parts, names):
    """Whether each of the parts is one of the names."""
    return all([part in names for part in parts])
