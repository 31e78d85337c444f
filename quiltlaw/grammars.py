"""Grammars: signs, a start and numbered rules."""

from quiltlaw.errors import NoGrammar, NoName
from quiltlaw.rules import SMALLS, CellRule, is_name, only_of

MOST_SIGNS = 4
MOST_RULES = 24
MOST_NAMES = 8


class Grammar:
    """Signs, a start and a list of rules, numbered from 0. NoGrammar with the first fault."""

    def __init__(self, signs, start, rules):
        check_made_of(signs, start, rules)
        self.signs = signs
        self.start = start
        self.kept = list(rules)
        self.numbers = numbers_by_name(start, rules)
        if len(self.numbers) > MOST_NAMES:
            raise NoGrammar(("names", len(self.numbers)))

    def rules(self):
        """The rules in their order."""
        return list(self.kept)

    def rule(self, k):
        """Rule k, k being the number of one."""
        return self.kept[k]

    def many(self):
        """How many rules there are."""
        return len(self.kept)

    def names(self):
        """The names in the order in which they are first met."""
        return list(self.numbers)

    def numbers_of(self, name):
        """The numbers of a name's rules, rising. NoName."""
        if name not in self.numbers:
            raise NoName("the grammar does not have this name")
        return list(self.numbers[name])

    def told(self):
        """The grammar written as a text."""
        rows = ["signs " + self.signs, "start " + self.start]
        return "\n".join(rows + [rule.told() for rule in self.kept])


def check_made_of(signs, start, rules):
    """NoGrammar with the first fault that can be found ahead of counting the names."""
    if not are_signs(signs):
        raise NoGrammar(("signs",))
    if not is_name(start):
        raise NoGrammar(("start",))
    if len(rules) > MOST_RULES:
        raise NoGrammar(("rules", len(rules)))
    for k, rule in enumerate(rules):
        if isinstance(rule, CellRule) and rule.sign not in signs:
            raise NoGrammar(("sign", k))


def are_signs(text):
    """Whether a text is one to four unlike small letters."""
    return 1 <= len(text) <= MOST_SIGNS and only_of(text, SMALLS) and len(set(text)) == len(text)


def numbers_by_name(start, rules):
    """For each name, in the order in which they are first met, the numbers of its rules."""
    numbers = {start: []}
    for k, rule in enumerate(rules):
        numbers.setdefault(rule.name, []).append(k)
        for part in rule.parts():
            numbers.setdefault(part, [])
    return numbers


def name_asked(grammar, name):
    """The name that is asked for: the start for None. NoName."""
    if name is None:
        return grammar.start
    # Asked for its refusal alone.
    grammar.numbers_of(name)
    return name
