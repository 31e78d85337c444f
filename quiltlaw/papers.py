"""Papers: a dict that is handed in as a table, held against each rule."""

from quiltlaw.cuts import Cuts, coming
from quiltlaw.pictures import shown
from quiltlaw.turnings import seen_in


def costs_by(grammar, told, key):
    """All costs that come for a key from a dict by its name's rules, rising. NoName."""
    numbers = grammar.numbers_of(key[1])
    return costs_in(grammar, numbers, Cuts(key[0].split("/")), told)


def costs_in(grammar, numbers, cuts, told):
    """All costs that come for a picture from a dict by the rules of these numbers, rising."""
    return sorted([cost for cost, number, way in coming(grammar, numbers, cuts, told)])


def table_fault(grammar, picture, told):
    """The first fault of a dict that is handed in as the picture's table, None where there is none."""
    texts = sorted([shown(seen) for seen in seen_in(picture)])
    strange = strange_keys(texts, grammar.names(), told)
    if strange != []:
        return ("key", min(strange))
    for text in texts:
        cuts = Cuts(text.split("/"))
        for name in sorted(grammar.names()):
            costs = costs_in(grammar, grammar.numbers_of(name), cuts, told)
            fault = fault_at(told, (text, name), costs)
            if fault is not None:
                return fault
    return None


def strange_keys(texts, names, told):
    """The keys that are none of these texts with one of these names, or whose value is below 1."""
    seen = {}
    for text in texts:
        seen[text] = True
    return [key for key in told if key[0] not in seen or key[1] not in names or told[key] < 1]


def fault_at(told, key, costs):
    """The fault of a dict at a key for which these costs come, rising; None where there is none."""
    if key not in told:
        return None if costs == [] else ("lacks", key)
    if costs == [] or costs[0] > told[key]:
        return ("loose", key)
    return ("lacks", key) if costs[0] < told[key] else None


def holds(grammar, picture, told):
    """Whether a dict is the picture's table: there is no fault in it."""
    return table_fault(grammar, picture, told) is None
