"""Promise [17]: live maps, held against drawings that are made anew after each change."""

import unittest

from cellpictures.books import Book
from cellpictures.drawing import draw
from cellpictures.errors import InvalidBook, InvalidCell, InvalidEnds, InvalidMap, InvalidNumber, NothingDone
from cellpictures.live import Live
from cellpictures.questions import matters
from cellpictures.rules import Rule
from tests.helping import (ALL_ENDS, Picker, Wrong, bad_books, bad_ends, bad_maps_below, cells, drawing_of,
                           expect_error, expect_refusals, great_map, made_books, some_book, things_outside)

OPEN, ROUND = ("open", "open"), ("wrap", "wrap")
SIZES = ((1, 1), (1, 2), (2, 1), (1, 6), (5, 1), (2, 2), (3, 3), (4, 5))


def with_kind(rows, row, column, kind):
    lines = [list(line) for line in rows]
    lines[row][column] = kind
    return tuple(tuple(line) for line in lines)


def unlike_cells(before, after):
    return tuple((row, column) for row, column in cells(before) if before[row][column] != after[row][column])


def left_book():
    """A book that draws what is left of a cell."""
    return Book(2, [Rule(None, [()] * 7 + [(1,)], ("a", 0))], [("b", 0), ("b", 0)])


def state(live):
    return live.book, live.rows, live.ends, live.drawing, len(live)


class ChangedTest(unittest.TestCase):
    def check_state(self, live, book, rows, ends, many):
        self.assertEqual((live.book, live.rows, live.ends, len(live)), (book, rows, ends, many))
        self.assertEqual(live.drawing, drawing_of(book, rows, ends))
        told = (live.rows, live.ends, live.drawing, *live.rows, *live.drawing)
        self.assertEqual({type(thing) for thing in told}, {tuple})

    def check_step(self, live, told, before, rows):
        expected = unlike_cells(before, live.drawing)
        self.assertEqual(told, expected)
        self.assertIs(type(told), tuple)
        self.assertEqual({type(cell) for cell in told} | {tuple}, {tuple})
        self.assertEqual(live.rows, rows)
        return len(told)

    def walk(self, book, rows, ends, picker, steps):
        """Change and take back at random, then take all back; returns how many cells were told."""
        live = Live(book, rows, ends=ends)
        self.check_state(live, book, rows, ends, 0)
        maps, counts = [rows], []
        for _ in range(steps):
            before = live.drawing
            if len(maps) > 1 and picker.below(4) == 0:
                maps.pop()
                counts.append(self.check_step(live, live.back(), before, maps[-1]))
            else:
                row, column = picker.below(len(rows)), picker.below(len(rows[0]))
                kind = picker.below(book.kinds)
                maps.append(with_kind(maps[-1], row, column, kind))
                counts.append(self.check_step(live, live.change(row, column, kind), before, maps[-1]))
            self.check_state(live, book, maps[-1], ends, len(maps) - 1)
        while len(maps) > 1:
            before = live.drawing
            maps.pop()
            self.check_step(live, live.back(), before, maps[-1])
        self.check_state(live, book, rows, ends, 0)
        expect_error(self, NothingDone, {}, live.back)
        return counts

    def test_walks(self):
        picker, counts = Picker(131), []
        for number, book in enumerate(made_books(30, 132)):
            for ends in ALL_ENDS:
                size = picker.pick(SIZES)
                with self.subTest(number=number, ends=ends, size=size):
                    counts += self.walk(book, picker.map(*size, book.kinds), ends, picker, 16)
        self.assertLessEqual({0, 1, 2, 3, 4}, set(counts))

    def test_every_cell_and_kind_of_a_map(self):
        book = made_books(9, 133)[8]
        rows = Picker(134).map(3, 4, 3)
        for ends in ALL_ENDS:
            live = Live(book, rows, ends=ends)
            for row, column in cells(rows):
                for kind in range(3):
                    after = with_kind(rows, row, column, kind)
                    expected = unlike_cells(drawing_of(book, rows, ends), drawing_of(book, after, ends))
                    self.assertEqual(live.change(row, column, kind), expected)
                    self.assertEqual(live.drawing, drawing_of(book, after, ends))
                    self.assertEqual(live.back(), expected)
                    self.assertEqual(live.rows, rows)


class ByHandTest(unittest.TestCase):
    def test_the_cells_are_told_ascending(self):
        around = Book(2, [Rule(None, [(1,) if place == number else () for number in range(8)], ("a", place))
                          for place in range(8)], [("b", 0), ("c", 0)])
        live = Live(around, ((0,) * 5,) * 5)
        told = live.change(2, 2, 1)
        self.assertEqual(told, tuple((row, column) for row in (1, 2, 3) for column in (1, 2, 3)))
        self.assertEqual(live.drawing[3][3], ("a", 0))
        self.assertEqual(live.back(), told)

    def test_cells_beside_the_changed_one_over_ends_that_wrap(self):
        expected = {OPEN: (), ("open", "wrap"): (), ("wrap", "open"): ((0, 0),), ROUND: ((0, 0),)}
        for ends in ALL_ENDS:
            live = Live(left_book(), ((0, 0, 0, 0), (0, 0, 0, 0)), ends=ends)
            self.assertEqual(live.change(0, 3, 1), expected[ends])
            self.assertEqual(live.back(), expected[ends])
        corner = Book(2, [Rule(None, [(1,)] + [()] * 7, ("a", 0))], [("b", 0), ("b", 0)])
        for ends in ALL_ENDS:
            live = Live(corner, ((0,) * 4,) * 3, ends=ends)
            self.assertEqual(live.change(2, 3, 1), ((0, 0),) if ends == ROUND else ())
        own = Live(left_book(), ((0,), (0,)), ends=("wrap", "open"))
        self.assertEqual(own.change(1, 0, 1), ((1, 0),))

    def test_the_same_kind_again(self):
        live = Live(left_book(), ((0, 1),))
        self.assertEqual(live.change(0, 1, 1), ())
        self.assertEqual((len(live), live.rows), (1, ((0, 1),)))
        self.assertEqual(live.change(0, 0, 1), ((0, 1),))
        self.assertEqual(live.change(0, 0, 1), ())
        self.assertEqual(len(live), 3)
        self.assertEqual(live.back(), ())
        self.assertEqual(live.back(), ((0, 1),))
        self.assertEqual(live.back(), ())
        self.assertEqual((len(live), live.rows), (0, ((0, 1),)))

    def test_another_rule_with_the_same_picture_is_no_change_of_the_drawing(self):
        book = Book(2, [Rule(0, ((),) * 8, ("a", 2))], [None, ("a", 0)], symmetries={"a": (0, 2)})
        live = Live(book, ((0, 0),))
        self.assertEqual(live.change(0, 0, 1), ())
        self.assertEqual(live.rows, ((1, 0),))
        missing = Live(Book(2, [], [None, ("a", 0)]), ((0, 0),))
        self.assertEqual(missing.change(0, 1, 1), ((0, 1),))
        self.assertEqual(missing.drawing, ((None, ("a", 0)),))
        self.assertEqual(missing.back(), ((0, 1),))
        self.assertEqual(missing.drawing, ((None, None),))

    def test_rows_and_columns_are_not_exchanged(self):
        live = Live(left_book(), ((0, 0, 0), (0, 0, 0)))
        self.assertEqual(live.change(1, 0, 1), ((1, 1),))
        self.assertEqual(live.rows, ((0, 0, 0), (1, 0, 0)))
        self.assertEqual(live.change(column=1, kind=1, row=0), ((0, 2),))
        self.assertEqual(live.rows, ((0, 1, 0), (1, 0, 0)))

    def test_two_live_maps_of_one_book(self):
        book, rows = left_book(), ((0, 0, 0),)
        live, second = Live(book, rows), Live(book, rows, ends=ROUND)
        live.change(0, 0, 1)
        self.assertEqual((second.rows, len(second)), (rows, 0))
        second.change(0, 2, 1)
        self.assertEqual((live.rows, second.rows), (((1, 0, 0),), ((0, 0, 1),)))
        self.assertEqual(live.drawing, draw(book, ((1, 0, 0),)))
        self.assertEqual(second.drawing, draw(book, ((0, 0, 1),), ends=ROUND))
        self.assertEqual(live.back(), ((0, 1),))
        expect_error(self, NothingDone, {}, live.back)
        self.assertEqual(len(second), 1)
        self.assertEqual(rows, ((0, 0, 0),))

    def test_only_cells_for_which_it_matters_can_change(self):
        steps = ((-1, -1), (-1, 0), (-1, 1), (0, 1), (1, 1), (1, 0), (1, -1), (0, -1), (0, 0))
        picker = Picker(135)
        for book in made_books(9, 136):
            may = {(2 - steps[place][0], 2 - steps[place][1]) for place in matters(book)}
            live = Live(book, picker.map(5, 5, book.kinds))
            for kind in range(book.kinds):
                self.assertLessEqual(set(live.change(2, 2, kind)), may)

    def test_many_changes_taken_back_all_the_way(self):
        rows, ends = great_map(), ("wrap", "open")
        book = made_books(6, 137)[5]
        live, told = Live(book, rows, ends=ends), []
        for number in range(60):
            told.append(live.change(number * 7 % 10, number * 3 % 20, number % 3))
        self.assertEqual(len(live), 60)
        self.assertEqual(live.drawing, drawing_of(book, live.rows, ends))
        self.assertNotEqual(live.rows, rows)
        self.assertEqual([live.back() for _ in range(60)], told[::-1])
        self.assertEqual(state(live), (book, rows, ends, drawing_of(book, rows, ends), 0))
        expect_error(self, NothingDone, {}, live.back)


class ArgumentsTest(unittest.TestCase):
    def test_made_with_wrong_arguments(self):
        expect_refusals(self, Live, [
            Wrong("book", some_book(), bad_books(), InvalidBook),
            Wrong("rows", ((0, 1, 1), (1, 0, 1)), bad_maps_below(2), InvalidMap),
            Wrong("ends", ("open", "wrap"), bad_ends(), InvalidEnds, only_named=True),
        ])
        self.assertRaises(TypeError, Live, some_book(), ((0,),), OPEN)

    def test_changed_with_wrong_arguments_it_stays_as_it_is(self):
        live = Live(some_book(), ((0, 1, 1), (1, 0, 1)))
        live.change(0, 0, 1)
        before = state(live)
        expect_refusals(self, live.change, [
            Wrong("row", 1, things_outside(0, 1), InvalidCell),
            Wrong("column", 2, things_outside(0, 2), InvalidCell),
            Wrong("kind", 1, things_outside(0, 1), InvalidNumber),
        ])
        self.assertEqual(state(live), before)
        live.back()
        before = state(live)
        expect_error(self, NothingDone, {}, live.back)
        expect_error(self, NothingDone, {}, live.back)
        self.assertEqual(state(live), before)

    def test_by_name_and_ends_not_passed(self):
        book, rows = some_book(), ((0, 1, 1), (1, 0, 1))
        for ends in ALL_ENDS:
            live = Live(ends=ends, rows=rows, book=book)
            self.assertEqual(state(live), (book, rows, ends, draw(book, rows, ends=ends), 0))
        self.assertEqual(state(Live(book, rows)), (book, rows, OPEN, draw(book, rows), 0))

    def test_right_things_at_the_edge_are_let(self):
        for kinds in (1, 2, 3):
            rows = ((0, kinds - 1), (0, 0), (kinds - 1, 0))
            live = Live(Book(kinds, [], [("a", number) for number in range(kinds)]), rows)
            self.assertEqual(live.change(2, 1, kinds - 1), ((2, 1),) if kinds > 1 else ())
            self.assertEqual(live.change(0, 0, 0), ())
            expect_error(self, InvalidNumber, {"thing": kinds}, live.change, 0, 0, kinds)

    def test_properties_are_only_read(self):
        live = Live(some_book(), ((0, 1),))
        for name in ("book", "rows", "ends", "drawing"):
            with self.assertRaises(AttributeError):
                setattr(live, name, None)

    def test_what_was_handed_in_may_be_changed_afterwards(self):
        rules, lasts, symmetries = [Rule(0, ((),) * 8, ("a", 2))], [("a", 0), ("a", 1)], {"a": (0, 2)}
        book = Book(2, rules, lasts, symmetries=symmetries)
        live = Live(book, ((0, 1),))
        rules.clear()
        lasts[1] = None
        symmetries["a"] = (0,)
        live.book.symmetries.clear()
        self.assertEqual(live.drawing, ((("a", 0), ("a", 1)),))
        self.assertEqual(live.change(0, 1, 0), ((0, 1),))
        self.assertEqual(live.drawing, ((("a", 0), ("a", 0)),))

    def test_live_maps_as_wrong_arguments(self):
        live = Live(some_book(), ((0, 1),))
        expect_error(self, InvalidBook, {"thing": live}, Live, live, ((0,),))
        expect_error(self, InvalidMap, {"thing": live}, Live, some_book(), live)
        expect_error(self, InvalidCell, {"thing": live}, live.change, live, 0, 0)
        expect_error(self, InvalidNumber, {"thing": live}, live.change, 0, 0, live)
        expect_error(self, InvalidEnds, {"thing": live}, Live, some_book(), ((0,),), ends=live)
        self.assertFalse(some_book() == live)


if __name__ == "__main__":
    unittest.main()
