"""Maps drawn by books."""

from cellpictures.books import check_book
from cellpictures.checks import check_cell, check_ends, check_map_below
from cellpictures.maps import kinds_around
from cellpictures.painting import Painter


def draw(book, rows, *, ends=("open", "open")):
    """Return the tuple of tuples of the pictures of all cells, None for missing ones."""
    check_book(book)
    check_map_below(rows, book.kinds)
    check_ends(ends)
    return Painter(book, ends).lines(rows)


def chosen(book, rows, row, column, *, ends=("open", "open")):
    """Return the number of the rule by which a cell draws, and the way in which it fits, None if there is none."""
    check_book(book)
    check_map_below(rows, book.kinds)
    check_cell(row, len(rows))
    check_cell(column, len(rows[0]))
    check_ends(ends)
    return Painter(book, ends).fit((rows[row][column], kinds_around(rows, row, column, ends)))
