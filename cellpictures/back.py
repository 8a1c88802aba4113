"""Maps told back from drawings.

A map is built row by row. What may follow hangs on its last two rows alone, so all beginnings that end with the
same two rows are told together: how many there are, the first of them, and which kinds stand in which cells.
"""

from cellpictures.books import check_book
from cellpictures.checks import check_ends, is_grid, is_picture
from cellpictures.errors import InvalidDrawing
from cellpictures.painting import Painter
from cellpictures.searching import all_rows


def is_item(thing):
    """Tell whether a thing is a picture, None, or the mark for one that is not known."""
    return thing is None or is_picture(thing) or (isinstance(thing, str) and thing == "?")


def check_drawing(drawing):
    """Raise InvalidDrawing if a thing is not a drawing."""
    if not is_grid(drawing, is_item):
        raise InvalidDrawing(drawing)


def told_item(book, item):
    """Return an item of a drawing, a picture as it is told."""
    return book.looks(item) if isinstance(item, tuple) else item


def is_drawn(line, wanted):
    """Tell whether a line of pictures is such as is wanted."""
    for picture, item in zip(line, wanted):
        if item != "?" and item != picture:
            return False
    return True


def followers(painter, rows_above, rows_here, rows_below, wanted):
    """Return, for each two rows above and here, the rows below with which the line of pictures is as wanted."""
    found = {}
    for above in rows_above:
        for here in rows_here:
            found[above, here] = [below for below in rows_below if is_drawn(painter.line(above, here, below), wanted)]
    return found


def marks_of(row, number, kinds):
    """Return an integer with one bit set for each cell of the row of a map with a number: that of its kind there."""
    start = number * len(row)
    return sum([1 << ((start + column) * kinds + kind) for column, kind in enumerate(row)])


def only_kind(marks, cell, kinds):
    """Return the kind that is marked for a cell, by its number, None if there are several."""
    found = [kind for kind in range(kinds) if (marks >> (cell * kinds + kind)) & 1]
    return found[0] if len(found) == 1 else None


def together(told, more):
    """Return what is told of some maps, None of no map, and of others: how many, the first, the marks of all."""
    if told is None:
        return more
    return told[0] + more[0], min(told[1], more[1]), told[2] | more[2]


class Retelling:
    """Builds the maps of a drawing row by row."""

    def __init__(self, book, drawing, ends):
        painter = Painter(book, ends)
        last = len(drawing) - 1
        self._wraps = ends[1] == "wrap"
        self._rows = all_rows(book.kinds, len(drawing[0]))
        self._followers = []
        self._marks = []
        for number, line in enumerate(drawing):
            rows_above = self._rows if self._wraps or number > 0 else [None]
            rows_below = self._rows if self._wraps or number < last else [None]
            wanted = [told_item(book, item) for item in line]
            self._followers.append(followers(painter, rows_above, self._rows, rows_below, wanted))
            self._marks.append({row: marks_of(row, number, book.kinds) for row in self._rows})

    def told(self):
        """Return what is told of all maps of the drawing, None if there is none."""
        if not self._wraps:
            return self._ended({(None, here): self._begun(here) for here in self._rows}, None, None)
        # What is above the first row is only known at the end: each row is tried.
        told = None
        for above in self._rows:
            for here in self._rows:
                ended = self._ended({(above, here): self._begun(here)}, above, here)
                told = told if ended is None else together(told, ended)
        return told

    def _begun(self, row):
        """Return what is told of a map that has come to its first row."""
        return 1, (row,), self._marks[0][row]

    def _grown(self, beginnings, number):
        """Return what is told, by their last two rows, of beginnings that come to one more row."""
        grown = {}
        for (above, here), (many, first, marks) in beginnings.items():
            for below in self._followers[number][above, here]:
                more = (many, first + (below,), marks | self._marks[number + 1][below])
                grown[here, below] = together(grown.get((here, below)), more)
        return grown

    def _ended(self, beginnings, top, bottom):
        """Return what is told of the maps that begin so, with a row above the first and a row below the last one.

        If the rows wrap, the row above the first is the last row of the map. None is no row, and no map.
        """
        last = len(self._followers) - 1
        for number in range(last):
            beginnings = self._grown(beginnings, number)
        told = None
        for (above, here), more in beginnings.items():
            if top in (None, here) and bottom in self._followers[last][above, here]:
                told = together(told, more)
        return told


def retold(book, drawing, ends):
    """Return what is told of the maps of a drawing, None if there is none, if the arguments are right."""
    check_book(book)
    check_drawing(drawing)
    check_ends(ends)
    return Retelling(book, drawing, ends).told()


def count_maps(book, drawing, *, ends=("open", "open")):
    """Return the number of maps of a drawing."""
    told = retold(book, drawing, ends)
    return 0 if told is None else told[0]


def first_map(book, drawing, *, ends=("open", "open")):
    """Return the first map of a drawing, as tuples are compared, None if there is none."""
    told = retold(book, drawing, ends)
    return None if told is None else told[1]


def sure_kinds(book, drawing, *, ends=("open", "open")):
    """Return for each cell its kind, None if it is not the same on all maps of a drawing; None if there is none."""
    told = retold(book, drawing, ends)
    if told is None:
        return None
    width = len(drawing[0])
    return tuple([tuple([only_kind(told[2], number * width + column, book.kinds) for column in range(width)])
                  for number in range(len(drawing))])
