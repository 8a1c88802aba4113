"""Maps of kinds, their ends, and the windows of their cells."""

from cellpictures.checks import check_cell, check_ends, check_map, check_way

# How far down and how far right of a cell its places are, clockwise from top left.
STEPS = ((-1, -1), (-1, 0), (-1, 1), (0, 1), (1, 1), (1, 0), (1, -1), (0, -1))


def mirrored(rows):
    """Return the rows mirrored left for right."""
    return tuple([row[::-1] for row in rows])


def turned_once(rows):
    """Return the rows turned clockwise by a quarter."""
    from_below = rows[::-1]
    return tuple(zip(*from_below))


def turned_map(rows, way):
    """Return the map turned by a way."""
    check_map(rows)
    check_way(way)
    turned = rows if way < 4 else mirrored(rows)
    for _ in range(way % 4):
        turned = turned_once(turned)
    return turned


def turned_ends(ends, way):
    """Return the ends, across and down, of a map with these ends turned by a way."""
    check_ends(ends)
    check_way(way)
    return ends if way % 2 == 0 else ends[::-1]


def line_at(line, many, end):
    """Return which of so many rows or columns is met at a number, None if there is none."""
    if end == "wrap":
        return line % many
    return line if 0 <= line < many else None


def kind_at(rows, row, column, ends):
    """Return the kind that is met at a row and a column, also beyond the map, None if there is none."""
    across, down = ends
    real_row = line_at(row, len(rows), down)
    real_column = line_at(column, len(rows[0]), across)
    if real_row is None or real_column is None:
        return None
    return rows[real_row][real_column]


def kinds_around(rows, row, column, ends):
    """Return the tuple of the eight kinds around a cell, None where there is nothing."""
    return tuple([kind_at(rows, row + below, column + right, ends) for below, right in STEPS])


def window(rows, row, column, *, ends=("open", "open")):
    """Return the kind of a cell and the tuple of the eight kinds around it, None where there is nothing."""
    check_map(rows)
    check_cell(row, len(rows))
    check_cell(column, len(rows[0]))
    check_ends(ends)
    return rows[row][column], kinds_around(rows, row, column, ends)
