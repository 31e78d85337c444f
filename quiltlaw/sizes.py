"""All pictures of a size that a name makes."""

from quiltlaw.errors import TooMany
from quiltlaw.pictures import MOST, shown
from quiltlaw.tables import enter_seen

MOST_PICTURES = 300


def pictures_of(grammar, name, rows, columns):
    """The pictures of a size that a name makes, rising, each with its least cost. NoName, TooMany."""
    # Asked for its refusal alone.
    grammar.numbers_of(name)
    if how_many(grammar.signs, rows, columns) > MOST_PICTURES:
        raise TooMany("more pictures of this size than are looked at")
    found = []
    told = {}
    done = {}
    for picture in all_pictures(grammar.signs, rows, columns):
        enter_seen(grammar, picture, told, done)
        key = (shown(picture), name)
        if key in told:
            found.append((picture, told[key]))
    return found


def how_many(signs, rows, columns):
    """How many ways there are to put signs into the cells of a size."""
    many = 1
    for cell in range(rows * columns):
        many = many * len(signs)
    return many


def all_pictures(signs, rows, columns):
    """All pictures of a size and of these signs, rising."""
    if not (1 <= rows <= MOST and 1 <= columns <= MOST):
        return []
    texts = chains(sorted(signs), columns, "")
    return chains([[text] for text in texts], rows, [])


def chains(links, many, nothing):
    """All chains of so many links, one behind the other; they rise where the links do."""
    found = [nothing]
    for step in range(many):
        longer = []
        for chain in found:
            longer.extend([chain + link for link in links])
        found = longer
    return found
