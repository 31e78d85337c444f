"""What rules ask of a picture: how it can be parted and turned, written as texts."""

from quiltlaw.pictures import parted, shown
from quiltlaw.turnings import turned


class Cuts:
    """A picture's text, and the texts of its two parts at each place, rising."""

    def __init__(self, picture):
        self.picture = list(picture)
        self.text = shown(picture)
        self.beside_texts = parted_texts(picture, True, len(picture[0]))
        self.above_texts = parted_texts(picture, False, len(picture))

    def turned_text(self, t):
        """The text of the picture turned by t."""
        return shown(turned(self.picture, t))


def parted_texts(picture, side_by_side, many):
    """The texts of the picture's two parts at each place from 1 to below many."""
    texts = []
    for at in range(1, many):
        two = parted(picture, side_by_side, at)
        texts.append((shown(two[0]), shown(two[1])))
    return texts


def cost_by(rule, way, told):
    """What a rule costs by one of its ways from a dict of costs, None where a key is wanting."""
    cost = rule.cost
    for key in way:
        if key not in told:
            return None
        cost = cost + told[key]
    return cost


def coming(grammar, numbers, cuts, told):
    """What comes for a picture from a dict of costs by the rules of these numbers, in their order.

    Each is a tuple (cost, the rule's number, the keys of its parts).
    """
    found = []
    for number in numbers:
        rule = grammar.rule(number)
        for way in rule.ways(cuts):
            cost = cost_by(rule, way, told)
            if cost is not None:
                found.append((cost, number, way))
    return found
