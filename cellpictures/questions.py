"""Questions about what a book draws on all maps.

What a cell draws hangs on its window alone. So each window is a part of a map of at most three rows and columns,
and the least map that shows something about a cell is one of these.
"""

from cellpictures.books import check_book
from cellpictures.checks import check_ends, check_number, check_way
from cellpictures.errors import InvalidEnds, UnlikeBooks
from cellpictures.maps import turned_map
from cellpictures.painting import Painter
from cellpictures.searching import all_windows, least_map, sizes_within


def least_small_map(book, shows):
    """Return the least map of at most three rows and columns that shows something, None if none does."""
    return least_map(book.kinds, sizes_within(3, 9), shows)


def missing(book, *, ends=("open", "open")):
    """Return the least map on which a picture is missing, or None."""
    check_book(book)
    check_ends(ends)
    painter = Painter(book, ends)
    return least_small_map(book, lambda rows: any([None in line for line in painter.lines(rows)]))


def pictures(book, *, ends=("open", "open")):
    """Return the tuple, ascending, of all pictures that are ever drawn, as they are told."""
    check_book(book)
    check_ends(ends)
    painter = Painter(book, ends)
    seen = {painter.shown(window): True for window in all_windows(book.kinds, ends)}
    return tuple(sorted([picture for picture in seen if picture is not None]))


def unused_rules(book, *, ends=("open", "open")):
    """Return the tuple, ascending, of the numbers of the rules by which no cell ever draws."""
    check_book(book)
    check_ends(ends)
    painter = Painter(book, ends)
    fits = [painter.fit(window) for window in all_windows(book.kinds, ends)]
    used = {fit[0]: True for fit in fits if fit is not None}
    return tuple([number for number in range(len(book.rules)) if number not in used])


def unused_lasts(book, *, ends=("open", "open")):
    """Return the tuple, ascending, of the kinds whose last picture there is, and no cell ever has."""
    check_book(book)
    check_ends(ends)
    painter = Painter(book, ends)
    left = {window[0]: True for window in all_windows(book.kinds, ends) if painter.fit(window) is None}
    return tuple([kind for kind, picture in enumerate(book.lasts) if picture is not None and kind not in left])


def least_parting(book, painter, other_painter):
    """Return the least map that two painters do not draw the same, or None."""
    return least_small_map(book, lambda rows: painter.lines(rows) != other_painter.lines(rows))


def needless(book, *, ends=("open", "open")):
    """Return the tuple, ascending, of the numbers of the rules without which, each by itself, the book draws alike."""
    check_book(book)
    check_ends(ends)
    painter = Painter(book, ends)
    return tuple([number for number in range(len(book.rules))
                  if least_parting(book, painter, Painter(book.without(number), ends)) is None])


def parting(book, other, *, ends=("open", "open")):
    """Return the least map that two books do not draw the same, None if they draw alike."""
    check_book(book)
    check_book(other)
    check_ends(ends)
    if book.kinds != other.kinds:
        raise UnlikeBooks()
    return least_parting(book, Painter(book, ends), Painter(other, ends))


def does_matter(painter, windows, place):
    """Tell whether the pictures of two windows that differ at one place alone, 8 for the middle, are not the same."""
    shown = {}
    for window in windows:
        middle, around = window
        kinds = around + (middle,)
        if kinds[place] is not None:
            picture = painter.shown(window)
            if shown.setdefault(kinds[:place] + kinds[place + 1:], picture) != picture:
                return True
    return False


def matters(book, *, ends=("open", "open")):
    """Return the tuple, ascending, of the places that matter, 8 for the middle."""
    check_book(book)
    check_ends(ends)
    painter = Painter(book, ends)
    windows = all_windows(book.kinds, ends)
    return tuple([place for place in range(9) if does_matter(painter, windows, place)])


def least_unkept(book, way, ends):
    """Return the least map that, turned, is drawn otherwise than the drawing of the map turned, or None."""
    painter = Painter(book, ends)
    # A turned book draws turned maps as the book draws the maps. The ends are alike, or the way is even: they stay.
    turned_painter = Painter(book.turned(way), ends)

    def is_unkept(rows):
        turned = turned_map(rows, way)
        return painter.lines(turned) != turned_painter.lines(turned)

    return least_small_map(book, is_unkept)


def can_be_kept(way, ends):
    """Tell whether a way leaves the ends of maps as they are."""
    return way % 2 == 0 or ends[0] == ends[1]


def kept_ways(book, *, ends=("open", "open")):
    """Return the tuple, ascending, of all ways that are kept."""
    check_book(book)
    check_ends(ends)
    return tuple([way for way in range(8) if can_be_kept(way, ends) and least_unkept(book, way, ends) is None])


def unkept(book, way, *, ends=("open", "open")):
    """Return the least map that, turned, is drawn otherwise than the drawing of the map turned, None if kept."""
    check_book(book)
    check_way(way)
    check_ends(ends)
    if not can_be_kept(way, ends):
        raise InvalidEnds(ends)
    return least_unkept(book, way, ends)


def framed(rows, kind):
    """Return a map with a frame of a kind around, one cell wide."""
    edge = ((kind,) * (len(rows[0]) + 2),)
    return edge + tuple([(kind,) + row + (kind,) for row in rows]) + edge


def least_unframed(book, kind):
    """Return the least map that is drawn otherwise within a frame of a kind, or None."""
    painter = Painter(book, ("open", "open"))

    def is_unframed(rows):
        lines = painter.lines(framed(rows, kind))
        return painter.lines(rows) != tuple([line[1:-1] for line in lines[1:-1]])

    return least_small_map(book, is_unframed)


def frames(book):
    """Return the tuple, ascending, of the kinds for which the book takes what lies beyond."""
    check_book(book)
    return tuple([kind for kind in range(book.kinds) if least_unframed(book, kind) is None])


def unframed(book, kind):
    """Return the least map that shows that the book does not take what lies beyond for a kind, or None."""
    check_book(book)
    check_number(kind, book.kinds)
    return least_unframed(book, kind)
