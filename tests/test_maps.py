"""Promise [5]: maps, ends and windows, held against maps that are turned and laid out here."""

import unittest

from cellpictures.errors import InvalidCell, InvalidEnds, InvalidMap, InvalidWay
from cellpictures.maps import turned_ends, turned_map, window
from cellpictures.ways import behind, inverse, place_to
from tests.helping import (ALL_ENDS, GREAT, Wrong, bad_ends, bad_maps, cells, expect_refusals, great_map,
                           things_outside, turned, window_of)

MAPS = (
    ((0,),), ((GREAT,),), ((0, 1),), ((0, 1, 2),), ((0,), (1,)), ((3,), (1,), (2,), (0,)),
    ((0, 1), (2, 3)), ((0, 0), (0, 1)), ((0, 1, 2), (3, 4, 5)), ((0, 1), (2, 3), (4, 5)),
    ((0, 1, 2), (3, 4, 5), (6, 7, 8)), ((1, 0, 2, 1), (0, 0, 1, 2), (2, 1, 1, 0)), ((GREAT, 0), (GREAT + 1, 7)),
)


def cell_brought(rows, cell, way):
    """Where the way brings a cell of the rows."""
    marked = tuple(tuple((row, column) == cell for column in range(len(rows[0]))) for row in range(len(rows)))
    moved = turned(marked, way)
    found, = [place for place in cells(moved) if moved[place[0]][place[1]]]
    return found


class TurnedMapTest(unittest.TestCase):
    def test_all_ways(self):
        for rows in MAPS + (great_map(),):
            for way in range(8):
                with self.subTest(rows=rows, way=way):
                    told = turned_map(rows, way)
                    self.assertEqual(told, turned(rows, way))
                    self.assertIs(type(told), tuple)
                    self.assertEqual({type(row) for row in told}, {tuple})

    def test_by_hand(self):
        told = [turned_map(((0, 1, 2), (3, 4, 5)), way) for way in range(8)]
        self.assertEqual(told, [
            ((0, 1, 2), (3, 4, 5)), ((3, 0), (4, 1), (5, 2)), ((5, 4, 3), (2, 1, 0)), ((2, 5), (1, 4), (0, 3)),
            ((2, 1, 0), (5, 4, 3)), ((5, 2), (4, 1), (3, 0)), ((3, 4, 5), (0, 1, 2)), ((0, 3), (1, 4), (2, 5)),
        ])
        self.assertEqual(turned_map(((0, 1, 2),), 1), ((0,), (1,), (2,)))
        self.assertEqual(turned_map(((0,), (1,), (2,)), 1), ((2, 1, 0),))

    def test_turned_twice_is_turned_by_the_way_behind(self):
        for rows in MAPS:
            for first_way in range(8):
                for way in range(8):
                    twice = turned_map(turned_map(rows, first_way), way)
                    self.assertEqual(twice, turned_map(rows, behind(way, first_way)))

    def test_undone(self):
        for rows in MAPS:
            for way in range(8):
                self.assertEqual(turned_map(turned_map(rows, way), inverse(way)), rows)

    def test_by_name(self):
        rows = ((0, 1, 2), (3, 4, 5))
        for way in range(8):
            self.assertEqual(turned_map(way=way, rows=rows), turned(rows, way))
            self.assertEqual(turned_map(rows, way=way), turned(rows, way))

    def test_wrong_arguments(self):
        way = Wrong("way", 7, things_outside(0, 7), InvalidWay)
        expect_refusals(self, turned_map, [Wrong("rows", ((0, 1, 2), (3, 4, 5)), bad_maps(), InvalidMap), way])


class TurnedEndsTest(unittest.TestCase):
    def test_exchanged_just_if_the_way_is_odd(self):
        for across, down in ALL_ENDS:
            for way in range(8):
                with self.subTest(across=across, down=down, way=way):
                    told = turned_ends((across, down), way)
                    self.assertEqual(told, (down, across) if way in (1, 3, 5, 7) else (across, down))
                    self.assertIs(type(told), tuple)

    def test_turned_twice(self):
        for ends in ALL_ENDS:
            for first_way in range(8):
                for way in range(8):
                    twice = turned_ends(turned_ends(ends, first_way), way)
                    self.assertEqual(twice, turned_ends(ends, behind(way, first_way)))

    def test_by_name(self):
        self.assertEqual(turned_ends(way=5, ends=("open", "wrap")), ("wrap", "open"))
        self.assertEqual(turned_ends(("open", "wrap"), way=6), ("open", "wrap"))

    def test_wrong_arguments(self):
        ends = Wrong("ends", ("open", "wrap"), bad_ends(), InvalidEnds)
        expect_refusals(self, turned_ends, [ends, Wrong("way", 0, things_outside(0, 7), InvalidWay)])


class WindowTest(unittest.TestCase):
    def test_all_cells_and_ends(self):
        for rows in MAPS + (great_map(),):
            for ends in ALL_ENDS:
                for row, column in cells(rows):
                    with self.subTest(rows=rows, row=row, column=column, ends=ends):
                        told = window(rows, row, column, ends=ends)
                        self.assertEqual(told, window_of(rows, row, column, ends))
                        self.assertEqual((type(told), type(told[1])), (tuple, tuple))

    def test_ends_not_passed_are_open(self):
        for rows in MAPS:
            for row, column in cells(rows):
                told = window(rows, row, column)
                self.assertEqual(told, window_of(rows, row, column, ("open", "open")))

    def test_by_hand(self):
        rows = ((0, 1, 2), (3, 4, 5), (6, 7, 8))
        none = None
        self.assertEqual(window(rows, 1, 1), (4, (0, 1, 2, 5, 8, 7, 6, 3)))
        self.assertEqual(window(rows, 0, 0), (0, (none, none, none, 1, 4, 3, none, none)))
        self.assertEqual(window(rows, 0, 0, ends=("wrap", "open")), (0, (none, none, none, 1, 4, 3, 5, 2)))
        self.assertEqual(window(rows, 0, 0, ends=("open", "wrap")), (0, (none, 6, 7, 1, 4, 3, none, none)))
        self.assertEqual(window(rows, 0, 0, ends=("wrap", "wrap")), (0, (8, 6, 7, 1, 4, 3, 5, 2)))
        self.assertEqual(window(rows, 2, 1), (7, (3, 4, 5, 8, none, none, none, 6)))

    def test_one_cell_is_its_own_neighbour_where_it_wraps(self):
        none = None
        self.assertEqual(window(((5,),), 0, 0), (5, (none,) * 8))
        self.assertEqual(window(((5,),), 0, 0, ends=("wrap", "open")),
                         (5, (none, none, none, 5, none, none, none, 5)))
        self.assertEqual(window(((5,),), 0, 0, ends=("open", "wrap")),
                         (5, (none, 5, none, none, none, 5, none, none)))
        self.assertEqual(window(((5,),), 0, 0, ends=("wrap", "wrap")), (5, (5,) * 8))

    def test_one_column_and_one_row_that_wrap(self):
        none = None
        self.assertEqual(window(((0,), (1,), (2,)), 0, 0, ends=("wrap", "open")),
                         (0, (none, none, none, 0, 1, 1, 1, 0)))
        self.assertEqual(window(((0, 1, 2),), 0, 0, ends=("open", "wrap")),
                         (0, (none, 0, 1, 1, 1, 0, none, none)))

    def test_window_of_the_turned_map(self):
        for rows in MAPS:
            for ends in ALL_ENDS:
                for way in range(8):
                    for row, column in cells(rows):
                        self.check_turned(rows, ends, way, (row, column))

    def check_turned(self, rows, ends, way, cell):
        middle, around = window(rows, *cell, ends=ends)
        turned_cell = cell_brought(rows, cell, way)
        told = window(turned_map(rows, way), *turned_cell, ends=turned_ends(ends, way))
        self.assertEqual(told[0], middle)
        self.assertEqual([told[1][place_to(way, place)] for place in range(8)], list(around))

    def test_edges_that_are_let(self):
        rows = great_map()
        self.assertEqual(window(rows, 9, 19)[0], rows[9][19])
        self.assertEqual(window(rows, 0, 19)[0], rows[0][19])
        self.assertEqual(window(rows, 9, 0)[0], rows[9][0])
        self.assertEqual(window(((GREAT, 0),), 0, 1), (0, (None,) * 7 + (GREAT,)))

    def test_by_name(self):
        rows = ((0, 1, 2), (3, 4, 5))
        expected = window_of(rows, 1, 2, ("wrap", "open"))
        self.assertEqual(window(rows=rows, row=1, column=2, ends=("wrap", "open")), expected)
        self.assertEqual(window(ends=("wrap", "open"), column=2, row=1, rows=rows), expected)
        self.assertEqual(window(rows, 1, column=2, ends=("wrap", "open")), expected)

    def test_ends_only_by_name(self):
        self.assertRaises(TypeError, window, ((0,),), 0, 0, ("open", "open"))

    def test_wrong_arguments(self):
        expect_refusals(self, window, [
            Wrong("rows", ((0, 1, 2), (3, 4, 5)), bad_maps(), InvalidMap),
            Wrong("row", 1, things_outside(0, 1), InvalidCell),
            Wrong("column", 2, things_outside(0, 2), InvalidCell),
            Wrong("ends", ("wrap", "open"), bad_ends(), InvalidEnds, only_named=True),
        ])

    def test_rows_and_columns_are_counted_apart(self):
        expect_refusals(self, window, [
            Wrong("rows", ((0,), (1,), (2,)), bad_maps(), InvalidMap),
            Wrong("row", 2, things_outside(0, 2), InvalidCell),
            Wrong("column", 0, things_outside(0, 0), InvalidCell),
        ])

    def test_the_same_call_again(self):
        rows = ((0, 1, 2), (3, 4, 5))
        for ends in ALL_ENDS:
            first = window(rows, 0, 2, ends=ends)
            window(rows, 1, 1, ends=("wrap", "wrap"))
            self.assertEqual(window(rows, 0, 2, ends=ends), first)
            self.assertEqual(window(((0, 1, 2), (3, 4, 5)), 0, 2, ends=tuple(list(ends))), first)
        self.assertEqual(rows, ((0, 1, 2), (3, 4, 5)))


if __name__ == "__main__":
    unittest.main()
