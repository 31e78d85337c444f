"""The eight turnings: 0 to 3 are so many quarters, 4 to 7 a mirror and then quarters."""

from quiltlaw.pictures import cut_out, shown, windows_of

TURNINGS = 8


def turned(picture, t):
    """The picture turned by t."""
    result = list(picture)
    if t >= 4:
        result = mirror(result)
    for step in range(t % 4):
        result = quarter(result)
    return result


def mirror(picture):
    """Each row from its last sign to its first."""
    return ["".join(reversed(row)) for row in picture]


def quarter(picture):
    """The picture whose rows are the columns, each from below."""
    return [column_from_below(picture, i) for i in range(len(picture[0]))]


def column_from_below(picture, i):
    """Column i as a text, its lowest sign first."""
    return "".join([row[i] for row in reversed(picture)])


def after(t, u):
    """The turning that does what t and then u do."""
    if u < 4:
        return t // 4 * 4 + (t + u) % 4
    # Quarters and then a mirror are the mirror and then as many quarters the other way.
    return (1 - t // 4) * 4 + (u - t) % 4


def back(t):
    """The turning that takes t back."""
    if t < 4:
        return (4 - t) % 4
    # Each turning with a mirror takes itself back.
    return t


def seen_in(picture):
    """All windows cut out in all turnings, each once: fewer cells first, then rising."""
    found = {}
    for window in windows_of(len(picture), len(picture[0])):
        part = cut_out(picture, window)
        for t in range(TURNINGS):
            seen = turned(part, t)
            found[shown(seen)] = seen
    return sorted(found.values(), key=cells_then_rows)


def cells_then_rows(picture):
    """What pictures that are seen are ordered by."""
    return (len(picture) * len(picture[0]), picture)
