"""Promise [16]: maps told back from drawings, held against all maps of their sizes."""

import unittest

from cellpictures.back import count_maps, first_map, sure_kinds
from cellpictures.books import Book
from cellpictures.drawing import draw
from cellpictures.errors import InvalidBook, InvalidDrawing, InvalidEnds
from cellpictures.rules import Rule
from tests.all_maps import Drawer, maps_of
from tests.helping import (ALL_ENDS, BEHIND, GREAT, Picker, Wrong, bad_books, bad_ends, expect_refusals, is_picture,
                           made_books, some_book, some_rule, things, with_condition)

OPEN, ROUND = ("open", "open"), ("wrap", "wrap")
UNKNOWN = "?"

# For each number of kinds, sizes with few enough maps to go through, among them single rows, columns and cells.
SIZES = {
    1: ((1, 1), (1, 16), (8, 1), (8, 16), (3, 5)),
    2: ((1, 1), (1, 2), (1, 3), (1, 4), (2, 1), (3, 1), (5, 1), (8, 1), (2, 2), (2, 3), (3, 2), (3, 3), (2, 4)),
    3: ((1, 1), (1, 2), (2, 1), (4, 1), (5, 1), (2, 2), (3, 2)),
}


def is_of(picture, item):
    return item == UNKNOWN or picture == item


def maps_of_drawing(book, told, ends):
    """All maps that are drawn as a drawing with told pictures, gone through one by one, ascending."""
    drawer = Drawer(book, ends)
    found = []
    for rows in maps_of(book.kinds, [(len(told), len(told[0]))]):
        lines = drawer.draw(rows)
        if all(is_of(picture, item) for line, items in zip(lines, told) for picture, item in zip(line, items)):
            found.append(rows)
    return found


def sure_of(maps):
    if not maps:
        return None
    kinds = [[{rows[row][column] for rows in maps} for column in range(len(maps[0][0]))] for row in range(len(maps[0]))]
    return tuple(tuple(min(found) if len(found) == 1 else None for found in line) for line in kinds)


def retold_otherwise(book, picture, picker):
    """A picture told in any way that looks the same."""
    if picture in (None, UNKNOWN):
        return picture
    name, way = picture
    return name, BEHIND[way][picker.pick(book.symmetries.get(name, (0,)))]


def some_drawing(book, height, width, ends, picker):
    """A drawing, with some pictures that are not known, and perhaps with one that is changed; and how it is told."""
    lines = [list(line) for line in Drawer(book, ends).draw(picker.map(height, width, book.kinds))]
    unknown = picker.below(5)
    for line in lines:
        for column in range(width):
            if picker.below(4) < unknown:
                line[column] = UNKNOWN
    if picker.below(4) == 0:
        lines[picker.below(height)][picker.below(width)] = picker.pick([None, ("a", 0), ("zz", 3), ("?", 0)])
        lines = [[item if item in (None, UNKNOWN) else book.looks(item) for item in line] for line in lines]
    told = tuple(tuple(line) for line in lines)
    return tuple(tuple(retold_otherwise(book, item, picker) for item in line) for line in told), told


class HeldAgainstAllMapsTest(unittest.TestCase):
    def check(self, book, drawing, told, ends):
        maps = maps_of_drawing(book, told, ends)
        self.assertEqual(count_maps(book, drawing, ends=ends), len(maps))
        self.assertEqual(first_map(book, drawing, ends=ends), maps[0] if maps else None)
        self.assertEqual(sure_kinds(book, drawing, ends=ends), sure_of(maps))
        return min(len(maps), 3)

    def test_made_books_and_drawings(self):
        picker, seen = Picker(121), []
        for number, book in enumerate(made_books(30, 122)):
            for ends in ALL_ENDS:
                for _ in range(4):
                    height, width = picker.pick(SIZES[book.kinds])
                    drawing, told = some_drawing(book, height, width, ends, picker)
                    with self.subTest(number=number, ends=ends, drawing=drawing):
                        seen.append(self.check(book, drawing, told, ends))
        self.assertTrue(min(seen.count(many) for many in range(4)) > 20)

    def test_each_size(self):
        picker = Picker(123)
        for kinds in (1, 2, 3):
            for size in SIZES[kinds]:
                for ends in ALL_ENDS:
                    for number in range(3):
                        book = picker.book(kinds)
                        drawing, told = some_drawing(book, *size, ends, picker)
                        with self.subTest(size=size, ends=ends, number=number):
                            self.check(book, drawing, told, ends)

    def test_larger_maps(self):
        picker = Picker(124)
        for size in ((3, 4), (4, 3), (6, 2), (2, 4), (4, 2)):
            for ends in ALL_ENDS:
                if ends[1] == "open" or size[1] < 4:
                    book = picker.book(2)
                    drawing, told = some_drawing(book, *size, ends, picker)
                    with self.subTest(size=size, ends=ends):
                        self.check(book, drawing, told, ends)

    def test_drawings_without_anything_known(self):
        for book in made_books(3, 125):
            for ends in ALL_ENDS:
                drawing = ((UNKNOWN,) * 2,) * 3
                many = book.kinds ** 6
                self.assertEqual(count_maps(book, drawing, ends=ends), many)
                self.assertEqual(first_map(book, drawing, ends=ends), ((0, 0),) * 3)
                expected = ((0 if book.kinds == 1 else None,) * 2,) * 3
                self.assertEqual(sure_kinds(book, drawing, ends=ends), expected)

    def test_what_is_drawn_tells_the_map_back(self):
        book = Book(2, [Rule(None, with_condition(1, ("other",)), ("a", 0))], [("b", 0), ("c", 0)])
        picker = Picker(126)
        for height, width in ((8, 4), (8, 3), (7, 2), (8, 1)):
            for ends in ALL_ENDS[::2]:
                rows = picker.map(height, width, 2)
                drawing = draw(book, rows, ends=ends)
                self.assertEqual(count_maps(book, drawing, ends=ends), 1)
                self.assertEqual(first_map(book, drawing, ends=ends), rows)
                self.assertEqual(sure_kinds(book, drawing, ends=ends), rows)


def columns_by_edges(edges, wraps):
    """For each column, its kinds if it begins with 0 and changes at the edges; None if there is no such map."""
    told = []
    for column in zip(*edges):
        kinds = [0]
        for edge in column[1:]:
            kinds.append(kinds[-1] ^ edge)
        closes = kinds[-1] ^ column[0] == 0 if wraps else not column[0]
        told.append(kinds if closes else None)
    return told


class ColumnsTest(unittest.TestCase):
    """Drawings that tell of each cell whether it is like the one above: each column is one of two, or of none."""

    BOOK = Book(2, [Rule(None, with_condition(1, ("other",)), ("edge", 0))], [("a", 0), ("a", 0)])

    def check(self, edges, ends):
        drawing = tuple(tuple(("edge" if edge else "a", 0) for edge in line) for line in edges)
        columns = columns_by_edges(edges, ends[1] == "wrap")
        there = None not in columns
        self.assertEqual(count_maps(self.BOOK, drawing, ends=ends), 2 ** len(columns) if there else 0)
        self.assertEqual(first_map(self.BOOK, drawing, ends=ends), tuple(zip(*columns)) if there else None)
        sure = ((None,) * len(columns),) * len(edges) if there else None
        self.assertEqual(sure_kinds(self.BOOK, drawing, ends=ends), sure)
        return there

    def test_the_greatest_drawings(self):
        picker, seen = Picker(129), []
        for ends in ALL_ENDS:
            height, width = (8, 4) if ends[1] == "open" else (6, 3)
            for number in range(24):
                rows = picker.map(height, width, 2)
                edges = [[above != kind for above, kind in zip(rows[row - 1], rows[row])] for row in range(height)]
                if ends[1] == "open":
                    edges[0] = [False] * width
                if number % 3 == 0:
                    edges[number // 3 % 2] = [not edge for edge in edges[number // 3 % 2]]
                seen.append((ends, self.check(edges, ends)))
        self.assertEqual(len(set(seen)), 8)


class ByHandTest(unittest.TestCase):
    EDGES = Book(2, [Rule(None, with_condition(7, ("other",)), ("edge", 0))], [("a", 0), ("a", 0)])

    def test_two_maps(self):
        drawing = ((("a", 0), ("edge", 0), ("a", 0)),)
        self.assertEqual(count_maps(self.EDGES, drawing), 2)
        self.assertEqual(first_map(self.EDGES, drawing), ((0, 1, 1),))
        self.assertEqual(sure_kinds(self.EDGES, drawing), ((None, None, None),))

    def test_no_map(self):
        for drawing, ends in ((((("edge", 0), ("a", 0)),), OPEN), (((("a", 1),),), OPEN), (((None,),), OPEN),
                              (((("zz", 0), UNKNOWN),), OPEN), (((("edge", 0), ("a", 0)),), ROUND)):
            self.assertEqual(count_maps(self.EDGES, drawing, ends=ends), 0)
            self.assertIsNone(first_map(self.EDGES, drawing, ends=ends))
            self.assertIsNone(sure_kinds(self.EDGES, drawing, ends=ends))

    def test_ends(self):
        drawing = ((("edge", 0), ("edge", 0)),)
        self.assertEqual([count_maps(self.EDGES, drawing, ends=ends) for ends in ALL_ENDS], [0, 0, 2, 2])
        above = Book(2, [Rule(None, with_condition(1, ("other",)), ("edge", 0))], [("a", 0), ("b", 0)])
        drawing = ((("edge", 0),), (("edge", 0),))
        self.assertEqual([count_maps(above, drawing, ends=ends) for ends in ALL_ENDS], [0, 2, 0, 2])
        drawing = ((("edge", 0),), (("edge", 0),), (UNKNOWN,), (("a", 0),))
        self.assertEqual([first_map(above, drawing, ends=ends) for ends in ALL_ENDS],
                         [None, ((1,), (0,), (0,), (0,)), None, ((1,), (0,), (0,), (0,))])

    def test_pictures_are_told_in_any_way_that_looks_the_same(self):
        book = Book(2, [], [("a", 3), ("b", 1)], symmetries={"a": (0, 2), "b": (0, 1, 2, 3, 4, 5, 6, 7)})
        for way in range(8):
            drawing = ((("a", way), ("b", way)),)
            self.assertEqual(count_maps(book, drawing), 1 if way in (1, 3) else 0)
            self.assertEqual(first_map(book, ((("b", way),),)), ((1,),))

    def test_missing_and_unknown(self):
        book = Book(2, [], [("a", 0), None])
        self.assertEqual(first_map(book, ((None, ("a", 0), UNKNOWN),)), ((1, 0, 0),))
        self.assertEqual(sure_kinds(book, ((None, ("a", 0), UNKNOWN),)), ((1, 0, None),))
        self.assertEqual(count_maps(book, ((None, ("a", 0), UNKNOWN),)), 2)
        named = Book(2, [], [("?", 0), ("a", 0)])
        self.assertEqual(count_maps(named, ((UNKNOWN, ("?", 0)),)), 2)
        self.assertEqual(sure_kinds(named, ((UNKNOWN, ("?", 0)),)), ((None, 0),))

    def test_the_first_map_is_the_first_as_tuples_are_compared(self):
        different = Book(3, [Rule(None, [(), ("same",), (), (), (), (), (), ()], ("s", 0)),
                             Rule(None, [(), (), (), (), (), (), (), ("same",)], ("s", 0))], [("a", 0)] * 3)
        drawing = ((("a", 0),) * 2,) * 6
        self.assertEqual(first_map(different, drawing), ((0, 1), (1, 0)) * 3)
        self.assertEqual(first_map(different, drawing, ends=("open", "wrap")), ((0, 1), (1, 0)) * 3)
        odd = ((("a", 0),) * 2,) * 3
        self.assertEqual(first_map(different, odd, ends=("open", "wrap")), ((0, 1), (1, 2), (2, 0)))
        self.assertEqual(count_maps(different, odd, ends=("open", "wrap")), 12)

    def test_answers_are_tuples(self):
        drawing = ((UNKNOWN, ("a", 0)), (UNKNOWN, UNKNOWN))
        for question in (first_map, sure_kinds):
            told = question(self.EDGES, drawing)
            self.assertEqual({type(told), *map(type, told)}, {tuple})


def is_item(thing):
    return thing is None or is_picture(thing) or (type(thing) is str and thing == "?")


def is_drawing(thing):
    """Whether a thing is a drawing, asked otherwise than the program asks it."""
    if type(thing) is not tuple or not thing or any(type(row) is not tuple for row in thing):
        return False
    return len(thing[0]) > 0 and all(len(row) == len(thing[0]) and all(map(is_item, row)) for row in thing)


def bad_drawings():
    right, row = ("a", 0), (("a", 0), None)
    told = [thing for thing in things() if not is_drawing(thing)]
    told += [((),), ((), ()), (row, ()), ((), row), (row, row[:1]), (row[:1], row), (row, row, row + row), [row],
             (list(row),), (row, list(row)), [list(row)], row, right, (right,), "?", ("?",), (("?", "??"),), (("",),),
             ((" ?",),), (("?",), "?"), ((True,),), ((0,),), ((0, 1), (1, 0)), ((right, False),), (((right,),),),
             ((right, ()),), ((["a", 0],),), ((right, ["a", 0]),), {0: row}, ({0: right},), (row, None), (None, row),
             (row, {}), (("none",),), ((b"?",),), ((some_rule(),),), (some_book(),), ((InvalidEnds(0),),)]
    for wrong in (("a",), ("a", 8), ("a", -1), ("a", GREAT), ("a", True), ("a", None), ("a", "0"), (0, 0), (None, 0),
                  ("a", 0, 0), (("a", 0), 0), ("a", (0,)), ("a", [0])):
        told += [((wrong,),), (row, (None, wrong)), ((wrong, wrong), row)]
    return told


class ArgumentsTest(unittest.TestCase):
    QUESTIONS = (count_maps, first_map, sure_kinds)

    def test_wrong_arguments(self):
        for question in self.QUESTIONS:
            expect_refusals(self, question, [
                Wrong("book", some_book(), bad_books(), InvalidBook),
                Wrong("drawing", ((("a", 7), None), ("?", "?")), bad_drawings(), InvalidDrawing),
                Wrong("ends", ("open", "wrap"), bad_ends(), InvalidEnds, only_named=True),
            ])

    def test_right_things_at_the_edge_are_let(self):
        book = some_book()
        for item in (None, "?", ("", 0), ("a" * 300, 7), ("\n", 3), ("?", 7)):
            for drawing in (((item,),), ((item, "?"), ("?", item)), (("?",), (item,))):
                for question in self.QUESTIONS:
                    self.assertEqual(question(book, drawing), question(book, drawing, ends=OPEN))

    def test_ends_not_passed_are_open(self):
        picker = Picker(127)
        for book in made_books(12, 128):
            drawing, _ = some_drawing(book, 2, 2, OPEN, picker)
            for question in self.QUESTIONS:
                self.assertEqual(question(book, drawing), question(book, drawing, ends=OPEN))
        edges = ByHandTest.EDGES
        drawing = ((("edge", 0), ("edge", 0)),)
        self.assertEqual([question(edges, drawing) for question in self.QUESTIONS], [0, None, None])

    def test_by_name(self):
        book, drawing = some_book(), ((("a", 7), "?"), ("?", None))
        for question in self.QUESTIONS:
            for ends in ALL_ENDS:
                self.assertEqual(question(ends=ends, drawing=drawing, book=book), question(book, drawing, ends=ends))
            self.assertEqual(question(drawing=drawing, book=book), question(book, drawing))
            self.assertRaises(TypeError, question, book, drawing, OPEN)

    def test_asked_again_and_in_another_order(self):
        book, drawing = some_book(), (("?", ("a", 1)), (None, "?"))
        for ends in ALL_ENDS:
            first = [question(book, drawing, ends=ends) for question in self.QUESTIONS]
            again = [question(book, drawing, ends=ends) for question in reversed(self.QUESTIONS)]
            self.assertEqual(again[::-1], first)


if __name__ == "__main__":
    unittest.main()
