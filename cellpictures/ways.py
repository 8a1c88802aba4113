"""The eight ways in which a square can be turned and mirrored.

A way from 4 on mirrors the square left for right. Then ways 0 and 4 leave it so, ways 1 and 5 turn it
clockwise by a quarter, ways 2 and 6 by two, and ways 3 and 7 by three.
"""

from cellpictures.checks import check_number, check_way


def behind(way, first_way):
    """Return the way that does what first_way does, and then what way does."""
    check_way(way)
    check_way(first_way)
    if way < 4:
        return first_way // 4 * 4 + (way + first_way) % 4
    # What was turned clockwise before it is mirrored is turned the other way round afterwards.
    return (1 - first_way // 4) * 4 + (way - first_way) % 4


def inverse(way):
    """Return the way that undoes a way."""
    check_way(way)
    if way < 4:
        return (4 - way) % 4
    # A square that is mirrored and turned is brought back by the same way once more.
    return way


def place_to(way, place):
    """Return the place, counted clockwise from top left, to which a way brings a place."""
    check_way(way)
    check_number(place, 8)
    if way < 4:
        return (place + 2 * way) % 8
    return (2 - place + 2 * way) % 8


def side_to(way, side):
    """Return the side, counted clockwise from the top, to which a way brings a side."""
    check_way(way)
    check_number(side, 4)
    if way < 4:
        return (side + way) % 4
    return (way - side) % 4
