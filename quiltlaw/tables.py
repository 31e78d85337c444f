"""Tables: the least cost of each picture seen in a picture, by each name."""

from quiltlaw.cuts import Cuts, coming
from quiltlaw.grammars import name_asked
from quiltlaw.pictures import shown
from quiltlaw.rules import TurnRule
from quiltlaw.turnings import TURNINGS, after, seen_in, turned


def least_cost(grammar, picture, name=None):
    """The least cost at which a name makes a picture, None where it does not. NoName."""
    asked = name_asked(grammar, name)
    return table_of(grammar, picture).get((shown(picture), asked))


def table_of(grammar, picture):
    """The least costs by (text, name) of the pictures seen in a picture and the grammar's names."""
    told = {}
    enter_seen(grammar, picture, told, {})
    return told


def enter_seen(grammar, picture, told, done):
    """Enter the least costs of all pictures seen in a picture, whose texts are then done, if they are not yet."""
    # The seen ones rise by cells, so what a picture can be parted into is done ahead of it.
    for seen in seen_in(picture):
        if shown(seen) not in done:
            for text in enter_turnings(grammar, seen, told):
                done[text] = True


def enter_turnings(grammar, picture, told):
    """Enter the least costs of a picture in each of its turnings; their texts are given back."""
    # A turning rule needs no fewer cells, so its turn comes when all eight are put together.
    turning = [rule for rule in grammar.rules() if isinstance(rule, TurnRule)]
    putting = [k for k, rule in enumerate(grammar.rules()) if not isinstance(rule, TurnRule)]
    texts = []
    for t in range(TURNINGS):
        cuts = Cuts(turned(picture, t))
        put_together(grammar, putting, cuts, told)
        texts.append(cuts.text)
    turn_about(turning, texts, grammar.names(), told)
    return texts


def put_together(grammar, numbers, cuts, told):
    """Enter for a picture the least costs by rules, of these numbers, whose parts have fewer cells, or none."""
    for cost, number, way in coming(grammar, numbers, cuts, told):
        lower(told, (cuts.text, grammar.rule(number).name), cost)


def lower(told, key, cost):
    """Enter a cost that is less than what is told, or is the first; whether it was entered."""
    if key in told and told[key] <= cost:
        return False
    told[key] = cost
    return True


def turn_about(rules, texts, names, told):
    """Lower by turning rules the costs of a picture in its turnings; text t is that of turning t."""
    changed = []
    for text in texts:
        changed.extend([(text, name) for name in names if (text, name) in told])
    while changed != []:
        lowered = []
        for text, name in changed:
            for rule in rules:
                key = (texts[after(texts.index(text), rule.turning)], rule.name)
                if rule.part == name and lower(told, key, told[(text, name)] + rule.cost):
                    lowered.append(key)
        changed = lowered
