"""Which sides and corners of pictures meet on all maps, and whether signs at them always fit.

The windows of two neighbours lie in a part of a map of at most three rows and four columns, or four rows and three
columns. So the least map that shows something about a seam is one of these. So is the least one on which corners
do not fit: where four meet that do not have the same sign, two of them that are neighbours do not.
"""

from cellpictures.books import check_book
from cellpictures.checks import check_ends, is_count_below, is_table
from cellpictures.errors import InvalidSide, InvalidSigns, MissingPicture
from cellpictures.painting import Painter
from cellpictures.questions import missing, pictures
from cellpictures.searching import least_map, maps_within, sizes_within
from cellpictures.ways import inverse, place_to, side_to


def sizes_of_two():
    """Return the sizes of the maps that show what two neighbours draw."""
    return sizes_within(4, 12)


def sides_shown(picture):
    """Return the sides that a picture has at its top, right, bottom and left."""
    name, way = picture
    back = inverse(way)
    return tuple([(name, side_to(back, side)) for side in range(4)])


def corners_shown(picture):
    """Return the corners of its name that a picture has top left, top right, bottom right and bottom left."""
    back = inverse(picture[1])
    return tuple([place_to(back, 2 * corner) // 2 for corner in range(4)])


def neighbours(many, end):
    """Return the tuples of two of so many rows or columns where one is followed by the other."""
    pairs = [(line, line + 1) for line in range(many - 1)]
    if end == "wrap":
        pairs.append((many - 1, 0))
    return pairs


def seams(lines, faces, ends):
    """Return the tuples of what meets at the seams of lines of pictures.

    Faces tell what each picture has at its top, right, bottom and left.
    """
    across, down = ends
    columns = neighbours(len(lines[0]), across)
    beside = [(line[left], 1, line[right], 3) for line in lines for left, right in columns]
    above = [(first, 2, second, 0) for upper, lower in neighbours(len(lines), down)
             for first, second in zip(lines[upper], lines[lower])]
    return [(faces[first][side], faces[second][opposite]) for first, side, second, opposite in beside + above
            if first is not None and second is not None]


def ties(book, *, ends=("open", "open")):
    """Return the tuple, ascending, of all tuples (one, second), ascending, of sides that meet at a seam."""
    check_book(book)
    check_ends(ends)
    painter = Painter(book, ends)
    faces = {picture: sides_shown(picture) for picture in pictures(book, ends=ends)}
    met = {}
    for rows in maps_within(book.kinds, sizes_of_two()):
        for one, second in seams(painter.lines(rows), faces, ends):
            met[min(one, second), max(one, second)] = True
    return tuple(sorted(met))


def check_side(side):
    """Raise InvalidSide if a thing is not a tuple of a name and one of its sides."""
    if not isinstance(side, tuple) or len(side) != 2 or not isinstance(side[0], str) or not is_count_below(side[1], 4):
        raise InvalidSide(side)


def tie_map(book, one, second, *, ends=("open", "open")):
    """Return the least map with a seam where two sides meet, in either order, None if there is none."""
    check_book(book)
    check_side(one)
    check_side(second)
    check_ends(ends)
    painter = Painter(book, ends)
    faces = {picture: sides_shown(picture) for picture in pictures(book, ends=ends)}

    def is_tied(rows):
        met = seams(painter.lines(rows), faces, ends)
        return (one, second) in met or (second, one) in met

    return least_map(book.kinds, sizes_of_two(), is_tied)


def drawn_names(book, ends):
    """Return the names, ascending, that a book ever draws."""
    return sorted(set([name for name, way in pictures(book, ends=ends)]))


def ties_by_symmetry(book, names):
    """Return the tuples of sides of some names that a symmetry brings one to the other."""
    symmetries = book.symmetries
    return [((name, side), (name, side_to(way, side)))
            for name in names for way in symmetries.get(name, (0,)) for side in range(4)]


def classes(book, *, ends=("open", "open")):
    """Return the tuple, ascending, of the classes, each an ascending tuple of sides, in which tied sides are."""
    check_book(book)
    check_ends(ends)
    names = drawn_names(book, ends)
    marks = {(name, side): (name, side) for name in names for side in range(4)}
    for one, second in list(ties(book, ends=ends)) + ties_by_symmetry(book, names):
        kept, lost = marks[one], marks[second]
        marks = {side: kept if mark == lost else mark for side, mark in marks.items()}
    members = {}
    for side in sorted(marks):
        members.setdefault(marks[side], []).append(side)
    return tuple(sorted([tuple(sides) for sides in members.values()]))


def are_four_strings(thing):
    """Tell whether a thing is a tuple of four strings."""
    return isinstance(thing, tuple) and len(thing) == 4 and all([isinstance(sign, str) for sign in thing])


def check_signs(signs):
    """Raise InvalidSigns if a thing is not a dict of four signs by names."""
    if not is_table(signs):
        raise InvalidSigns(None)
    for name in sorted(signs):
        if not are_four_strings(signs[name]):
            raise InvalidSigns(name)


def check_names(signs, names):
    """Raise InvalidSigns if one of some names has no signs."""
    for name in names:
        if name not in signs:
            raise InvalidSigns(name)


def misfit(book, signs, *, ends=("open", "open")):
    """Return the least map on which signs for sides do not fit, None if they fit on all maps."""
    check_book(book)
    check_signs(signs)
    check_ends(ends)
    check_names(signs, drawn_names(book, ends))
    painter = Painter(book, ends)
    shown = {picture: sides_shown(picture) for picture in pictures(book, ends=ends)}
    faces = {picture: [signs[name][side] for name, side in sides] for picture, sides in shown.items()}

    def is_misfit(rows):
        return any([one != second for one, second in seams(painter.lines(rows), faces, ends)])

    return least_map(book.kinds, sizes_of_two(), is_misfit)


class Corners:
    """Tells where lines of pictures do not fit at their corners, and works out each line once."""

    def __init__(self, faces, ends):
        self._faces = faces
        self._across, self._down = ends
        self._met = {}

    def met(self, line):
        """Return the signs above and below a line of pictures where two columns meet, None where they are unlike."""
        if line not in self._met:
            columns = neighbours(len(line), self._across)
            pairs = [(self._faces[line[left]], self._faces[line[right]]) for left, right in columns]
            top = [first[1] if first[1] == second[0] else None for first, second in pairs]
            bottom = [first[2] if first[2] == second[3] else None for first, second in pairs]
            self._met[line] = (top, bottom)
        return self._met[line]

    def are_misfit(self, lines):
        """Tell whether four corners that meet, somewhere in lines of pictures, do not have the same sign."""
        for upper, lower in neighbours(len(lines), self._down):
            bottom, top = self.met(lines[upper])[1], self.met(lines[lower])[0]
            if bottom != top or None in bottom:
                return True
        return False


def corner_misfit(book, signs, *, ends=("open", "open")):
    """Return the least map on which signs for corners do not fit, None if they fit on all maps."""
    check_book(book)
    check_signs(signs)
    check_ends(ends)
    check_names(signs, drawn_names(book, ends))
    if missing(book, ends=ends) is not None:
        raise MissingPicture()
    painter = Painter(book, ends)
    shown = {picture: corners_shown(picture) for picture in pictures(book, ends=ends)}
    faces = {picture: [signs[picture[0]][corner] for corner in numbers] for picture, numbers in shown.items()}
    corners = Corners(faces, ends)
    return least_map(book.kinds, sizes_of_two(), lambda rows: corners.are_misfit(painter.lines(rows)))
