"""What the modules ask of their arguments."""

from cellpictures.errors import InvalidCell, InvalidEnds, InvalidMap, InvalidNumber, InvalidPicture, InvalidWay


def is_count(thing):
    """Tell whether a thing is an integer from 0 on."""
    # A bool is an int to Python, and none here.
    return isinstance(thing, int) and not isinstance(thing, bool) and thing >= 0


def is_count_below(thing, limit):
    """Tell whether a thing is an integer from 0 to limit less 1."""
    return is_count(thing) and thing < limit


def is_list(thing):
    """Tell whether a thing may stand where a list is wanted."""
    return isinstance(thing, (list, tuple))


def is_table(thing):
    """Tell whether a thing is a dict with strings as keys."""
    return isinstance(thing, dict) and all([isinstance(name, str) for name in thing])


def is_way(thing):
    """Tell whether a thing is a way."""
    return is_count_below(thing, 8)


def check_way(way):
    """Raise InvalidWay if a thing is not a way."""
    if not is_way(way):
        raise InvalidWay(way)


def is_picture(thing):
    """Tell whether a thing is a tuple of a name and a way."""
    return isinstance(thing, tuple) and len(thing) == 2 and isinstance(thing[0], str) and is_way(thing[1])


def check_picture(picture):
    """Raise InvalidPicture if a thing is not a picture."""
    if not is_picture(picture):
        raise InvalidPicture(picture)


def check_number(number, limit):
    """Raise InvalidNumber if a thing is not an integer from 0 to limit less 1."""
    if not is_count_below(number, limit):
        raise InvalidNumber(number)


def check_cell(line, limit):
    """Raise InvalidCell if a thing is not one of so many rows or columns."""
    if not is_count_below(line, limit):
        raise InvalidCell(line)


def is_end(thing):
    """Tell whether a thing is an end of a map."""
    return isinstance(thing, str) and thing in ("open", "wrap")


def check_ends(ends):
    """Raise InvalidEnds if a thing is not a tuple of two ends."""
    if not isinstance(ends, tuple) or len(ends) != 2 or not is_end(ends[0]) or not is_end(ends[1]):
        raise InvalidEnds(ends)


def is_row(thing, is_item):
    """Tell whether a thing is a tuple of right items, at least one."""
    return isinstance(thing, tuple) and len(thing) > 0 and all([is_item(item) for item in thing])


def is_grid(thing, is_item):
    """Tell whether a thing is a tuple of rows of one length, at least one, with right items."""
    if not isinstance(thing, tuple) or len(thing) == 0:
        return False
    for row in thing:
        if not is_row(row, is_item) or len(row) != len(thing[0]):
            return False
    return True


def check_map(rows):
    """Raise InvalidMap if a thing is not a map."""
    if not is_grid(rows, is_count):
        raise InvalidMap(rows)


def check_map_below(rows, limit):
    """Raise InvalidMap if a thing is not a map with kinds from 0 to limit less 1."""
    check_map(rows)
    if max([max(row) for row in rows]) >= limit:
        raise InvalidMap(rows)
