"""How books come to their pictures: what they try for a cell, and painters that keep what was worked out once."""

from cellpictures.rules import brought_further, conditions_in_way, holds


def wanted_kinds(conditions, middle, kinds):
    """Return, for each of some conditions around a middle, the kinds for which it holds, None for nothing."""
    things = [None] + list(range(kinds))
    return [[kind for kind in things if holds(condition, middle, kind)] for condition in conditions]


def tries(book, middle):
    """Return what a book tries for a cell of a kind, in order.

    Each is the number of a rule, a way of it, and the kinds that are wanted at each place. They are worked
    out once for all cells of the kind, since most of the time goes there.
    """
    found = []
    for number, rule in enumerate(book.rules):
        if rule.middle is None or rule.middle == middle:
            for way in rule.ways:
                found.append((number, way, wanted_kinds(conditions_in_way(rule, way), middle, book.kinds)))
    return found


def is_around(wanted, around):
    """Tell whether the kinds around a cell are such as are wanted at each place."""
    for kind, kinds in zip(around, wanted):
        if kind not in kinds:
            return False
    return True


def first_fit(tried, around):
    """Return the number and the way of the first of some tries that fits what is around a cell, None if none does."""
    for number, way, wanted in tried:
        if is_around(wanted, around):
            return number, way
    return None


def picture_by(book, middle, fit):
    """Return the picture of a cell of a kind, as it is told, by the number and the way of what fits, or None."""
    if fit is None:
        picture = book.lasts[middle]
    else:
        number, way = fit
        picture = brought_further(book.rules[number].picture, way)
    return None if picture is None else book.looks(picture)


def widened(row, width, across):
    """Return a row, None for no row, of so many kinds with what is beyond its two ends."""
    if row is None:
        return (None,) * (width + 2)
    if across == "wrap":
        return row[-1:] + row + row[:1]
    return (None,) + row + (None,)


def windows_along(above, here, below, across):
    """Return the windows of the cells of a row between two rows, None for no row."""
    width = len(here)
    top, line, bottom = [widened(row, width, across) for row in (above, here, below)]
    found = []
    for left in range(width):
        middle, right = left + 1, left + 2
        found.append((line[middle], (top[left], top[middle], top[right], line[right],
                                     bottom[right], bottom[middle], bottom[left], line[left])))
    return found


class Painter:
    """Draws maps with given ends by a book, and works out each window, and each row between two others, once."""

    def __init__(self, book, ends):
        self._book = book
        self._across, self._down = ends
        self._tried = [tries(book, kind) for kind in range(book.kinds)]
        self._fits = {}
        self._shown = {}
        self._lines = {}

    def fit(self, window):
        """Return the number and the way of the rule by which a cell with a window draws, None if none fits."""
        if window not in self._fits:
            middle, around = window
            self._fits[window] = first_fit(self._tried[middle], around)
        return self._fits[window]

    def shown(self, window):
        """Return the picture of a cell with a window, as it is told, None if it is missing."""
        if window not in self._shown:
            self._shown[window] = picture_by(self._book, window[0], self.fit(window))
        return self._shown[window]

    def line(self, above, here, below):
        """Return the pictures of a row between two rows, None for no row."""
        rows = (above, here, below)
        if rows not in self._lines:
            windows = windows_along(above, here, below, self._across)
            self._lines[rows] = tuple([self.shown(window) for window in windows])
        return self._lines[rows]

    def lines(self, rows):
        """Return the tuple of the lines of pictures of a map."""
        wraps = self._down == "wrap"
        first = rows[-1] if wraps else None
        last = rows[0] if wraps else None
        rows_above = (first,) + rows[:-1]
        rows_below = rows[1:] + (last,)
        return tuple([self.line(above, here, below) for above, here, below in zip(rows_above, rows, rows_below)])
