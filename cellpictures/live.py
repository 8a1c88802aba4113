"""Maps that are drawn, and changed cell by cell."""

from cellpictures.books import check_book
from cellpictures.checks import check_cell, check_ends, check_map_below, check_number
from cellpictures.errors import NothingDone
from cellpictures.painting import Painter


def with_kind(rows, row, column, kind):
    """Return a map with a kind at a cell."""
    line = rows[row]
    return rows[:row] + (line[:column] + (kind,) + line[column + 1:],) + rows[row + 1:]


class Live:
    """A map that is drawn, and changed cell by cell."""

    def __init__(self, book, rows, *, ends=("open", "open")):
        check_book(book)
        check_map_below(rows, book.kinds)
        check_ends(ends)
        self._book = book
        self._rows = rows
        self._ends = ends
        self._painter = Painter(book, ends)
        self._drawing = self._painter.lines(rows)
        self._done = []

    @property
    def book(self):
        """The book that draws the map."""
        return self._book

    @property
    def rows(self):
        """The map as it is now."""
        return self._rows

    @property
    def ends(self):
        """The ends of the map."""
        return self._ends

    @property
    def drawing(self):
        """The drawing of the map as it is now."""
        return self._drawing

    def __len__(self):
        return len(self._done)

    def change(self, row, column, kind):
        """Give a cell a kind, and return the tuple, ascending, of the cells that are drawn otherwise now."""
        check_cell(row, len(self._rows))
        check_cell(column, len(self._rows[0]))
        check_number(kind, self._book.kinds)
        self._done.append((row, column, self._rows[row][column]))
        return self._put(row, column, kind)

    def back(self):
        """Take the last change back, and return the tuple, ascending, of the cells that are drawn otherwise now."""
        if len(self._done) == 0:
            raise NothingDone()
        row, column, kind = self._done.pop()
        return self._put(row, column, kind)

    def _put(self, row, column, kind):
        """Give a cell a kind, draw the map, and return the cells that are drawn otherwise."""
        before = self._drawing
        self._rows = with_kind(self._rows, row, column, kind)
        # The painter has kept the lines far from the cell, so only those beside it are worked out.
        self._drawing = self._painter.lines(self._rows)
        return tuple([(at, place) for at, line in enumerate(self._drawing) for place, picture in enumerate(line)
                      if picture != before[at][place]])
