"""The first tree: one of the least cost, the same at each asking."""

from quiltlaw.cuts import Cuts, coming
from quiltlaw.errors import TooMany
from quiltlaw.grammars import name_asked
from quiltlaw.pictures import shown
from quiltlaw.tables import table_of
from quiltlaw.trees import MOST_NUMBERS, MOST_WITHIN, grown


def first_tree(grammar, picture, name=None):
    """The first tree of a picture and a name, None where it does not make it. NoName, TooMany."""
    top = (shown(picture), name_asked(grammar, name))
    told = table_of(grammar, picture)
    if top not in told:
        return None
    numbers = []
    # Keys whose trees are still wanted and how deep they lie, the next one last.
    wanted = [(top, 1)]
    while wanted != []:
        here = wanted.pop()
        step = first_step(grammar, told, here[0])
        numbers.append(step[0])
        if len(numbers) > MOST_NUMBERS or here[1] > MOST_WITHIN:
            raise TooMany("the first tree is too large")
        for key in reversed(step[1]):
            wanted.append((key, here[1] + 1))
    return grown(grammar, numbers)


def first_step(grammar, told, key):
    """The first by which the least cost of a told key comes: (rule's number, keys of its parts)."""
    cuts = Cuts(key[0].split("/"))
    found = coming(grammar, grammar.numbers_of(key[1]), cuts, told)
    # A told cost comes by some rule, so there is a first one.
    return [(number, way) for cost, number, way in found if cost == told[key]][0]
