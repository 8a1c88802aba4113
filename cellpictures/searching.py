"""All windows and all small maps, and the least of the maps that show something."""

from cellpictures.maps import STEPS


def all_tuples(choices):
    """Return all tuples of one of each of some lists, in their order."""
    found = [()]
    for things in choices:
        found = [start + (thing,) for start in found for thing in things]
    return found


def all_rows(kinds, width):
    """Return all rows of so many kinds and cells, ascending."""
    return all_tuples([list(range(kinds))] * width)


def all_maps(kinds, height, width):
    """Return all maps of so many kinds, rows and columns, ascending."""
    return all_tuples([all_rows(kinds, width)] * height)


def sizes_within(most_lines, most_cells):
    """Return the tuples (rows, columns) with at most so many of both, and so many cells, as maps are compared."""
    lines = range(1, most_lines + 1)
    sizes = sorted([(height * width, height, width) for height in lines for width in lines])
    return [(height, width) for cells, height, width in sizes if cells <= most_cells]


def least_map(kinds, sizes, shows):
    """Return the first map of some sizes, in their order, that shows something, None if none does."""
    for height, width in sizes:
        for rows in all_maps(kinds, height, width):
            if shows(rows):
                return rows
    return None


def maps_within(kinds, sizes):
    """Return all maps of some sizes."""
    return [rows for height, width in sizes for rows in all_maps(kinds, height, width)]


def presences(end):
    """Return the tuples that tell where there may be something: before a cell, at it, and after it."""
    if end == "wrap":
        return [(True, True, True)]
    return [(before, True, after) for before in (False, True) for after in (False, True)]


def all_windows(kinds, ends):
    """Return all windows of maps of so many kinds with given ends."""
    across, down = ends
    some, nothing = list(range(kinds)), [None]
    found = []
    for down_there in presences(down):
        for across_there in presences(across):
            choices = [some if down_there[1 + below] and across_there[1 + right] else nothing for below, right in STEPS]
            found.extend([(middle, around) for around in all_tuples(choices) for middle in some])
    return found
