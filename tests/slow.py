"""What several tests reckon for themselves, slowly and in the document's own words."""

LETTERS = "abcdefghijklmnopqrstuvwxyz"


def sample(rows, columns, start=0):
    """A picture of this size whose cells differ as far as the letters reach."""
    return ["".join(LETTERS[(start + i * columns + j) % 26] for j in range(columns))
            for i in range(rows)]


def quarter_by_cells(picture):
    """A quarter in the very words of promise 9."""
    r, c = len(picture), len(picture[0])
    return ["".join(picture[r - 1 - j][i] for j in range(r)) for i in range(c)]


def turned_by_cells(picture, t):
    """A turning in the very words of promise 9."""
    if t >= 4:
        picture = [row[::-1] for row in picture]
    for _ in range(t % 4):
        picture = quarter_by_cells(picture)
    return picture
