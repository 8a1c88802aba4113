"""What the modules ask of their arguments."""

from cellpictures.errors import InvalidCell, InvalidEnds, InvalidMap, InvalidNumber, InvalidWay


def is_count(thing):
    """Tell whether a thing is an integer from 0 on."""
    # A bool is an int to Python, and none here.
    return isinstance(thing, int) and not isinstance(thing, bool) and thing >= 0


def is_count_below(thing, limit):
    """Tell whether a thing is an integer from 0 to limit less 1."""
    return is_count(thing) and thing < limit


def check_way(way):
    """Raise InvalidWay if a thing is not a way."""
    if not is_count_below(way, 8):
        raise InvalidWay(way)


def check_number(number, limit):
    """Raise InvalidNumber if a thing is not an integer from 0 to limit less 1."""
    if not is_count_below(number, limit):
        raise InvalidNumber(number)


def check_cell(line, limit):
    """Raise InvalidCell if a thing is not one of so many rows or columns."""
    if not is_count_below(line, limit):
        raise InvalidCell(line)


def is_end(thing):
    """Tell whether a thing is an end of a map."""
    return isinstance(thing, str) and thing in ("open", "wrap")


def check_ends(ends):
    """Raise InvalidEnds if a thing is not a tuple of two ends."""
    if not isinstance(ends, tuple) or len(ends) != 2 or not is_end(ends[0]) or not is_end(ends[1]):
        raise InvalidEnds(ends)


def is_row(thing):
    """Tell whether a thing is a tuple of kinds, at least one."""
    return isinstance(thing, tuple) and len(thing) > 0 and all([is_count(kind) for kind in thing])


def is_map(thing):
    """Tell whether a thing is a tuple of rows of one length, at least one."""
    if not isinstance(thing, tuple) or len(thing) == 0:
        return False
    for row in thing:
        if not is_row(row) or len(row) != len(thing[0]):
            return False
    return True


def check_map(rows):
    """Raise InvalidMap if a thing is not a map."""
    if not is_map(rows):
        raise InvalidMap(rows)
