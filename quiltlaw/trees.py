"""Trees of rules: their faults, what they lay out and what they cost."""

from quiltlaw.errors import NoFit, NoTree

MOST_NUMBERS = 200
MOST_WITHIN = 60


def tree_fault(grammar, tree):
    """The first fault of a tree by a grammar, None where there is none."""
    try:
        laid(grammar, tree)
    except NoTree as e:
        return e.why
    return None


def laid(grammar, tree):
    """The picture that a tree lays out. NoTree."""
    check_form(grammar, tree, (), None)
    return lay(grammar, tree, ())


def cost_of(grammar, tree):
    """The sum of the costs of a tree's rules, each as often as it stands there. NoTree."""
    laid(grammar, tree)
    return sum([grammar.rule(number).cost for number in numbers_in(tree)])


def numbers_in(tree):
    """The tree's numbers, each ahead of its parts, the first part ahead of the second."""
    numbers = [tree[0]]
    for part in tree[1:]:
        numbers.extend(numbers_in(part))
    return numbers


def grown(grammar, numbers):
    """The tree of these numbers, in the order of numbers_in, each with as many parts as its rule."""
    waiting = []
    # From the last number on, so that the parts of each stand ready where it is reached.
    for number in reversed(numbers):
        tree = (number,)
        for part in grammar.rule(number).parts():
            tree = tree + (waiting.pop(),)
        waiting.append(tree)
    return waiting[0]


def check_form(grammar, tree, place, name):
    """NoTree with the first wrong number, wrong count of parts or wrong name.

    The name is the one that is wanted at this place, None where any will do.
    """
    number = tree[0]
    if number < 0 or number >= grammar.many():
        raise NoTree(("number", place))
    rule = grammar.rule(number)
    parts = rule.parts()
    if len(tree) - 1 != len(parts):
        raise NoTree(("parts", place))
    if name is not None and rule.name != name:
        raise NoTree(("name", place))
    for k, part in enumerate(parts):
        check_form(grammar, tree[k + 1], place + (k,), part)


def lay(grammar, tree, place):
    """What a tree of good form at this place lays out. NoTree where parts can't be put so."""
    pictures = []
    for k, part in enumerate(tree[1:]):
        pictures.append(lay(grammar, part, place + (k,)))
    try:
        return grammar.rule(tree[0]).made(pictures)
    except NoFit:
        raise NoTree(("fit", place)) from None
