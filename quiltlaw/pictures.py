"""Pictures: lists of one to six rows, texts of one to six signs, all alike long."""

from quiltlaw.errors import NoFit, NoPicture

MOST = 6


def checked(rows, signs):
    """The rows as a picture of the signs. NoPicture with the first fault."""
    if len(rows) == 0 or len(rows) > MOST:
        raise NoPicture(("rows", len(rows)))
    for k, row in enumerate(rows):
        if len(row) == 0 or len(row) > MOST or len(row) != len(rows[0]):
            raise NoPicture(("row", k))
        check_signs(k, row, signs)
    return list(rows)


def check_signs(k, row, signs):
    """NoPicture where row k has a sign that is none of the signs."""
    for j, sign in enumerate(row):
        if sign not in signs:
            raise NoPicture(("sign", k, j))


def size_of(picture):
    """How many rows and how many columns, as a tuple."""
    return (len(picture), len(picture[0]))


def shown(picture):
    """The picture written as a text, "/" between its rows."""
    return "/".join(picture)


def read_picture(text, signs):
    """The picture of the signs that a text is. NoPicture."""
    return checked(text.split("/"), signs)


def windows_of(rows, columns):
    """All windows (top, left, bottom, right) of a size, rising."""
    windows = []
    for top in range(rows):
        for left in range(columns):
            for bottom in range(top + 1, rows + 1):
                for right in range(left + 1, columns + 1):
                    windows.append((top, left, bottom, right))
    return windows


def cut_out(picture, window):
    """The picture within a window."""
    top = window[0]
    left = window[1]
    bottom = window[2]
    right = window[3]
    return [row[left:right] for row in picture[top:bottom]]


def beside(one, other):
    """One picture and, to the right of it, the other. NoFit."""
    if len(one) != len(other) or len(one[0]) + len(other[0]) > MOST:
        raise NoFit("beside: not as many rows, or more than six columns")
    return [first + second for first, second in zip(one, other)]


def above(one, other):
    """One picture and, below it, the other. NoFit."""
    if len(one[0]) != len(other[0]) or len(one) + len(other) > MOST:
        raise NoFit("above: not as many columns, or more than six rows")
    return one + other


def parted(picture, side_by_side, at):
    """The two pictures that a picture is parted into, behind so many columns or rows."""
    if side_by_side:
        return ([row[:at] for row in picture], [row[at:] for row in picture])
    return (picture[:at], picture[at:])
