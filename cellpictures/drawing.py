"""Maps drawn by books."""

from cellpictures.books import check_book
from cellpictures.checks import check_cell, check_ends, check_map_below
from cellpictures.maps import kinds_around
from cellpictures.rules import brought_further, conditions_in_way, holds


def wanted_kinds(conditions, middle, kinds):
    """Return, for each of some conditions around a middle, the kinds for which it holds, None for nothing."""
    things = [None] + list(range(kinds))
    return [[kind for kind in things if holds(condition, middle, kind)] for condition in conditions]


def tries(book, middle):
    """Return what a book tries for a cell of a kind, in order.

    Each is the number of a rule, a way of it, and the kinds that are wanted at each place. They are worked
    out once for all cells of the kind, since most of the time goes there.
    """
    found = []
    for number, rule in enumerate(book.rules):
        if rule.middle is None or rule.middle == middle:
            for way in rule.ways:
                found.append((number, way, wanted_kinds(conditions_in_way(rule, way), middle, book.kinds)))
    return found


def is_around(wanted, around):
    """Tell whether the kinds around a cell are such as are wanted at each place."""
    for kind, kinds in zip(around, wanted):
        if kind not in kinds:
            return False
    return True


def first_fit(tried, around):
    """Return the number and the way of the first of some tries that fits what is around a cell, None if none does."""
    for number, way, wanted in tried:
        if is_around(wanted, around):
            return number, way
    return None


def picture_by(book, middle, fit):
    """Return the picture of a cell of a kind, as it is told, by the number and the way of what fits, or None."""
    if fit is None:
        picture = book.lasts[middle]
    else:
        number, way = fit
        picture = brought_further(book.rules[number].picture, way)
    return None if picture is None else book.looks(picture)


def draw(book, rows, *, ends=("open", "open")):
    """Return the tuple of tuples of the pictures of all cells, None for missing ones."""
    check_book(book)
    check_map_below(rows, book.kinds)
    check_ends(ends)
    tried = [tries(book, kind) for kind in range(book.kinds)]
    drawing = []
    for row, line in enumerate(rows):
        fits = [first_fit(tried[kind], kinds_around(rows, row, column, ends)) for column, kind in enumerate(line)]
        drawing.append(tuple([picture_by(book, kind, fit) for kind, fit in zip(line, fits)]))
    return tuple(drawing)


def chosen(book, rows, row, column, *, ends=("open", "open")):
    """Return the number of the rule by which a cell draws, and the way in which it fits, None if there is none."""
    check_book(book)
    check_map_below(rows, book.kinds)
    check_cell(row, len(rows))
    check_cell(column, len(rows[0]))
    check_ends(ends)
    return first_fit(tries(book, rows[row][column]), kinds_around(rows, row, column, ends))
