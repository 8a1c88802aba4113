"""All small maps, drawn here, and what is asked of them, gone through otherwise than the program does it."""

import functools
import itertools

from cellpictures.books import Book
from cellpictures.rules import Rule
from tests.helping import BEHIND, BROUGHT, Picker, choice_of, laid_out, told_by, turned

OPEN = ("open", "open")


def sizes_up_to(*limits):
    """The sizes within one of some limits, by fewest cells and then by fewest rows."""
    sizes = {(height, width) for most_rows, most_columns in limits
             for height in range(1, most_rows + 1) for width in range(1, most_columns + 1)}
    return sorted(sizes, key=lambda size: (size[0] * size[1], size[0]))


THREE = sizes_up_to((3, 3))
SEAMS = sizes_up_to((3, 4), (4, 3))
FOUR = sizes_up_to((4, 4))


def maps_of(kinds, sizes):
    """All maps of the sizes, in the order in which maps are compared."""
    for height, width in sizes:
        for cells in itertools.product(range(kinds), repeat=height * width):
            yield tuple(cells[row * width:row * width + width] for row in range(height))


def windows_in(rows, ends):
    """The rows of windows of all cells of a map."""
    wide = laid_out(rows, ends)
    told = []
    for above, here, below in zip(wide, wide[1:], wide[2:]):
        told.append([(here[k + 1], (above[k], above[k + 1], above[k + 2], here[k + 2],
                                    below[k + 2], below[k + 1], below[k], here[k])) for k in range(len(rows[0]))])
    return told


class Drawer:
    """Draws maps by a book; each window is gone through once."""

    def __init__(self, book, ends=OPEN):
        self.book = book
        self.ends = ends
        self.symmetries = book.symmetries
        self.seen = {}

    def choice_and_picture(self, window):
        if window not in self.seen:
            middle, around = window
            choice = choice_of(self.book, middle, around)
            picture = self.book.lasts[middle]
            if choice is not None:
                name, way = self.book.rules[choice[0]].picture
                picture = (name, BEHIND[choice[1]][way])
            self.seen[window] = (choice, told_by(self.symmetries, picture))
        return self.seen[window]

    def choices(self, rows):
        """The numbers of the rules, or the kinds with last pictures, by which the cells draw."""
        told = []
        for window in itertools.chain(*windows_in(rows, self.ends)):
            choice, picture = self.choice_and_picture(window)
            told.append(("last", window[0]) if choice is None else ("rule", choice[0]))
        return told

    def draw(self, rows):
        return tuple(tuple(self.choice_and_picture(window)[1] for window in line)
                     for line in windows_in(rows, self.ends))


def turned_drawing(symmetries, lines, way):
    """A drawing turned, with its pictures turned and told."""
    pictures = [[None if item is None else told_by(symmetries, (item[0], BEHIND[way][item[1]])) for item in line]
                for line in lines]
    return turned(pictures, way)


def framed(rows, kind):
    width = len(rows[0])
    return (((kind,) * (width + 2),) + tuple((kind, *row, kind) for row in rows) + ((kind,) * (width + 2),))


@functools.cache
def side_at(picture, side):
    """The side of its name that a picture has at one of its sides: the place that a way brings there."""
    name, way = picture
    return name, (BROUGHT[way].index(2 * side + 1) - 1) // 2


@functools.cache
def corner_at(picture, corner):
    """The corner of its name that a picture has at one of its corners."""
    return picture[0], BROUGHT[picture[1]].index(2 * corner) // 2


def followed(many, end):
    """Which rows or columns are followed by which."""
    return [(k, (k + 1) % many) for k in range(many if end == "wrap" else many - 1)]


def seams_in(lines, ends):
    """The tuples of sides that meet at the seams of a drawing, the less one first, one for each seam."""
    height, width = len(lines), len(lines[0])
    pairs = [(lines[row][left], 1, lines[row][right], 3)
             for row in range(height) for left, right in followed(width, ends[0])]
    pairs += [(lines[upper][column], 2, lines[lower][column], 0)
              for column in range(width) for upper, lower in followed(height, ends[1])]
    return [tuple(sorted([side_at(first, side), side_at(second, other)]))
            for first, side, second, other in pairs if first and second]


def corners_in(lines, ends):
    """The tuples of the four (name, corner) that meet in a drawing."""
    told = []
    for upper, lower in followed(len(lines), ends[1]):
        for left, right in followed(len(lines[0]), ends[0]):
            four = ((lines[upper][left], 2), (lines[upper][right], 3),
                    (lines[lower][right], 0), (lines[lower][left], 1))
            told.append(tuple(corner_at(picture, corner) for picture, corner in four))
    return told


def only_at(window, picture):
    """A rule that fits just one window."""
    middle, around = window
    return Rule(middle, [("beyond",) if kind is None else (kind,) for kind in around], picture)


def all_but_at(window, kinds, picture):
    """Rules that fit, together, all windows but one."""
    middle, around = window
    told = [Rule(kind, [()] * 8, picture) for kind in range(kinds) if kind != middle]
    for place in range(8):
        there = "beyond" if around[place] is None else around[place]
        others = tuple(thing for thing in ["beyond", *range(kinds)] if thing != there)
        told.append(Rule(None, [others if place == number else () for number in range(8)], picture))
    return told


def some_windows(kinds, many, seed, ends):
    """Windows of maps of all sizes up to three rows and columns."""
    picker = Picker(seed)
    told = []
    for number in range(many):
        height, width = THREE[number % 9]
        rows = picker.map(height, width, kinds)
        told.append(windows_in(rows, ends)[picker.below(height)][picker.below(width)])
    return told


def rare_books(kinds, many, seed, ends=OPEN):
    """Books that draw one window otherwise than all others, or miss a picture just there."""
    told = []
    for number, window in enumerate(some_windows(kinds, many, seed, ends)):
        if number % 2:
            told.append(Book(kinds, all_but_at(window, kinds, ("a", number % 8)), [None] * kinds))
        else:
            told.append(Book(kinds, [only_at(window, ("b", 2))], [("b", 0)] * kinds, symmetries={"b": (0, 4)}))
    return told


def wires(symmetries=None):
    """A book in which cells of kind 1 are wired to those beside them, with signs for the sides that fit."""
    ends = [(3, 1, 5, 7), (3, 1, 7), (1, 3), (1, 5), (1,)]
    names = ["cross", "tee", "bend", "line", "end"]
    rules = []
    for name, places in zip(names, ends):
        around = [("same",) if place in places else () for place in range(8)]
        rules.append(Rule(1, around, (name, 0), ways=(0, 1, 2, 3)))
    signs = {name: tuple("wire" if 2 * side + 1 in places else "" for side in range(4))
             for name, places in zip(names, ends)}
    signs.update({"dot": ("",) * 4, "none": ("",) * 4})
    return Book(2, rules, [("none", 0), ("dot", 3)], symmetries=symmetries), signs


def shores():
    """A book that draws land by its corners, where four cells of land meet, with signs for the corners that fit."""
    whole = [(0, 1, 2, 3), (0, 1, 2), (0, 1), (0, 2), (0,)]
    names = ["full", "most", "half", "aslant", "bit"]
    rules = []
    for name, corners in zip(names, whole):
        inside = {(2 * corner + step) % 8 for corner in corners for step in (-1, 0, 1)}
        around = [("same",) if place in inside else () for place in range(8)]
        rules.append(Rule(1, around, (name, 0), ways=(2, 1, 0, 3)))
    signs = {name: tuple("land" if corner in corners else "sea" for corner in range(4))
             for name, corners in zip(names, whole)}
    signs.update({"water": ("sea",) * 4, "rock": ("sea",) * 4})
    return Book(2, rules, [("water", 1), ("rock", 6)]), signs


def pair_books(many, seed, ends):
    """Books that draw two windows that are neighbours otherwise than all others."""
    picker = Picker(seed)
    told = []
    for number in range(many):
        rows = picker.map(*((3, 4), (4, 3))[number % 2], 2)
        windows = windows_in(rows, ends)
        first, second = ((1, 1), (1, 2)) if number % 2 == 0 else ((1, 1), (2, 1))
        rules = [only_at(windows[row][column], (name, picker.below(8)))
                 for (row, column), name in ((first, "m"), (second, "n"))]
        told.append(Book(2, rules, [("z", 0), ("z", 1)], symmetries={"z": (0, 2), "n": picker.pick([(0,), (0, 5)])}))
    return told
