"""Rules: what a name makes by one step, and at what cost."""

from quiltlaw.errors import NoRule
from quiltlaw.pictures import above, beside
from quiltlaw.turnings import after, back, turned

CAPITALS = "ABCDEFGHIJKLMNOPQRSTUVWXYZ"
SMALLS = "abcdefghijklmnopqrstuvwxyz"
LONGEST_NAME = 4


def only_of(text, letters):
    """Whether each sign of the text is one of the letters."""
    return all([sign in letters for sign in text])


def is_name(text):
    """Whether a text is one to four capital letters."""
    return 1 <= len(text) <= LONGEST_NAME and only_of(text, CAPITALS)


class Rule:
    """The base of the four kinds of rule; never made alone."""

    def __init__(self, name, cost, part_names):
        for text in [name] + part_names:
            if not is_name(text):
                raise NoRule("a name is one to four capital letters")
        if cost < 1 or cost > 9:
            raise NoRule("a cost is from 1 to 9")
        self.name = name
        self.cost = cost
        self.part_names = part_names

    def parts(self):
        """The names that the rule is of, in their order."""
        return list(self.part_names)

    def head(self):
        """What stands ahead of the right side where a rule is written."""
        return self.name + " " + str(self.cost) + ": "


class CellRule(Rule):
    """Makes one cell of a sign."""

    def __init__(self, name, cost, sign):
        Rule.__init__(self, name, cost, [])
        if len(sign) != 1 or not only_of(sign, SMALLS):
            raise NoRule("a sign is one small letter")
        self.sign = sign

    def made(self, pictures):
        """The picture of the one cell."""
        return [self.sign]

    def renamed(self, names):
        """The rule with the dict's value for its name. NoRule."""
        return CellRule(names.get(self.name, self.name), self.cost, self.sign)

    def turned_whole(self, t):
        """The same rule anew: a cell looks alike in each turning."""
        return CellRule(self.name, self.cost, self.sign)

    def ways(self, cuts):
        """For each way to make the picture so, the keys (text, name) of its parts; here none."""
        return [[]] if cuts.text == self.sign else []

    def part_rows(self, rows, columns, cost):
        """For each way to a tree of this size and cost, the rows of trees of its parts; here none."""
        return [[]] if (rows, columns, cost) == (1, 1, self.cost) else []

    def told(self):
        """The rule written as a text."""
        return self.head() + self.sign


class BesideRule(Rule):
    """Puts what two names make beside one another."""

    def __init__(self, name, cost, one, other):
        Rule.__init__(self, name, cost, [one, other])
        self.one = one
        self.other = other

    def made(self, pictures):
        """The first picture and, to the right of it, the second. NoFit."""
        return beside(pictures[0], pictures[1])

    def renamed(self, names):
        """The rule with the dict's values for its names. NoRule."""
        return BesideRule(names.get(self.name, self.name), self.cost,
                          names.get(self.one, self.one), names.get(self.other, self.other))

    def turned_whole(self, t):
        """The rule that makes of turned pictures what this one makes, turned by t."""
        return turned_pair(self, True, t)

    def ways(self, cuts):
        """For each way to make the picture so, by rising place, the keys (text, name) of its parts."""
        return [[(first, self.one), (second, self.other)] for first, second in cuts.beside_texts]

    def part_rows(self, rows, columns, cost):
        """For each way to a tree of this size and cost, in order, the rows of trees of its parts."""
        sizes = [((rows, at), (rows, columns - at)) for at in range(1, columns)]
        return paired_rows(self, sizes, cost - self.cost)

    def told(self):
        """The rule written as a text."""
        return self.head() + self.one + " | " + self.other


class AboveRule(Rule):
    """Puts what one name makes above what another makes."""

    def __init__(self, name, cost, one, other):
        Rule.__init__(self, name, cost, [one, other])
        self.one = one
        self.other = other

    def made(self, pictures):
        """The first picture and, below it, the second. NoFit."""
        return above(pictures[0], pictures[1])

    def renamed(self, names):
        """The rule with the dict's values for its names. NoRule."""
        return AboveRule(names.get(self.name, self.name), self.cost,
                         names.get(self.one, self.one), names.get(self.other, self.other))

    def turned_whole(self, t):
        """The rule that makes of turned pictures what this one makes, turned by t."""
        return turned_pair(self, False, t)

    def ways(self, cuts):
        """For each way to make the picture so, by rising place, the keys (text, name) of its parts."""
        return [[(first, self.one), (second, self.other)] for first, second in cuts.above_texts]

    def part_rows(self, rows, columns, cost):
        """For each way to a tree of this size and cost, in order, the rows of trees of its parts."""
        sizes = [((at, columns), (rows - at, columns)) for at in range(1, rows)]
        return paired_rows(self, sizes, cost - self.cost)

    def told(self):
        """The rule written as a text."""
        return self.head() + self.one + " / " + self.other


class TurnRule(Rule):
    """Turns what a name makes."""

    def __init__(self, name, cost, part, turning):
        Rule.__init__(self, name, cost, [part])
        if turning < 0 or turning > 7:
            raise NoRule("a turning is from 0 to 7")
        self.part = part
        self.turning = turning

    def made(self, pictures):
        """The one picture, turned."""
        return turned(pictures[0], self.turning)

    def renamed(self, names):
        """The rule with the dict's values for its names. NoRule."""
        return TurnRule(names.get(self.name, self.name), self.cost,
                        names.get(self.part, self.part), self.turning)

    def turned_whole(self, t):
        """The rule that makes of turned pictures what this one makes, turned by t."""
        # What is handed in is turned already: that is taken back ahead of the rule's own turning.
        return TurnRule(self.name, self.cost, self.part, after(after(back(t), self.turning), t))

    def ways(self, cuts):
        """For the one way to make the picture so, the key (text, name) of its part."""
        return [[(cuts.turned_text(back(self.turning)), self.part)]]

    def part_rows(self, rows, columns, cost):
        """For the one way to a tree of this size and cost, the row of trees of its part."""
        # By one quarter or three, mirrored or not, rows become columns.
        size = (columns, rows) if self.turning % 2 == 1 else (rows, columns)
        return [[(self.part,) + size + (cost - self.cost,)]]

    def told(self):
        """The rule written as a text."""
        return self.head() + self.part + " turned " + str(self.turning)


def turned_pair(rule, side_by_side, t):
    """A beside rule (side_by_side) or an above rule, turned as a whole by t."""
    # A mirror changes which picture stands left, but not which stands above.
    swapped = side_by_side and t >= 4
    for step in range(t % 4):
        # By a quarter the left one comes above, the upper one to the right.
        if not side_by_side:
            swapped = not swapped
        side_by_side = not side_by_side
    one = rule.other if swapped else rule.one
    other = rule.one if swapped else rule.other
    if side_by_side:
        return BesideRule(rule.name, rule.cost, one, other)
    return AboveRule(rule.name, rule.cost, one, other)


def fewest(size):
    """The least cost that a tree of a size can have."""
    # Each cell takes a cell rule, and one rule fewer puts them together, each at 1 or more.
    return 2 * size[0] * size[1] - 1


def paired_rows(rule, sizes, left):
    """The rows (name, rows, columns, cost) of both parts, for each two sizes and each cost of the first, rising.

    Both parts together cost what is left.
    """
    found = []
    for one, other in sizes:
        for first in range(fewest(one), left - fewest(other) + 1):
            found.append([(rule.one,) + one + (first,), (rule.other,) + other + (left - first,)])
    return found
