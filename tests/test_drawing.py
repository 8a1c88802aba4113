"""Promises [5] to [7]: what books draw, held against windows, rules and ways that are gone through here."""

import unittest

from cellpictures.books import Book
from cellpictures.drawing import chosen, draw
from cellpictures.errors import InvalidBook, InvalidCell, InvalidEnds, InvalidMap
from cellpictures.rules import Rule
from tests.helping import (ALL_ENDS, Wrong, bad_books, bad_ends, bad_maps_below, cells, choice_of, drawing_of,
                           expect_refusals, great_map, made_books, made_maps, some_book, things_outside, window_of)

ANYWHERE = ((),) * 8


def full_book():
    """A book at the limits, whose rules fail at the last place that is looked at, but for some cells."""
    conditions = [("beyond", "same", "other", 0, 1, 2)] * 8
    rules = []
    for number in range(16):
        never = conditions[:number % 8] + [("beyond",)] + conditions[number % 8 + 1:]
        rules.append(Rule(None, never, ("a", number % 8), ways=tuple(range(5))))
    return Book(3, rules, [("b", 1), None, ("c", 7)], symmetries={"c": (0, 4)})


class DrawTest(unittest.TestCase):
    def test_cell_by_cell(self):
        seen = []
        for number, book in enumerate(made_books(60, 71)):
            for rows in made_maps(book.kinds, number):
                for ends in ALL_ENDS:
                    told = draw(book, rows, ends=ends)
                    self.assertEqual(told, drawing_of(book, rows, ends))
                    self.assertEqual({type(line) for line in told} | {type(told)}, {tuple})
                    self.check_choices(book, rows, ends, seen)
        # The books and maps are such that all of this comes to be drawn.
        self.assertTrue({"last", "missing", (0, 0), (3, 7)} <= set(seen))

    def check_choices(self, book, rows, ends, seen):
        for row, column in cells(rows):
            middle, around = window_of(rows, row, column, ends)
            told = chosen(book, rows, row, column, ends=ends)
            self.assertEqual(told, choice_of(book, middle, around))
            self.assertIn(type(told), (tuple, type(None)))
            seen.append(told or ("missing" if book.lasts[middle] is None else "last"))

    def test_ends_not_passed_are_open(self):
        for number, book in enumerate(made_books(20, 72)):
            for rows in made_maps(book.kinds, number):
                self.assertEqual(draw(book, rows), drawing_of(book, rows, ("open", "open")))
                for row, column in cells(rows)[::3]:
                    expected = choice_of(book, *window_of(rows, row, column, ("open", "open")))
                    self.assertEqual(chosen(book, rows, row, column), expected)

    def test_the_first_rule_that_fits_then_the_last_picture_then_missing(self):
        left = [()] * 7 + [("same",)]
        book = Book(3, [Rule(0, left, ("a", 1)), Rule(None, left, ("b", 2)), Rule(0, ANYWHERE, ("c", 3))],
                    [("d", 4), ("e", 5), None])
        rows = ((0, 0, 1, 1), (1, 2, 2, 0))
        self.assertEqual(draw(book, rows), (
            (("c", 3), ("a", 1), ("e", 5), ("b", 2)),
            (("e", 5), None, ("b", 2), ("c", 3)),
        ))
        self.assertEqual([chosen(book, rows, 0, column) for column in range(4)], [(2, 0), (0, 0), None, (1, 0)])
        self.assertEqual([chosen(book, rows, 1, column) for column in range(4)], [None, None, (1, 0), (2, 0)])

    def test_an_earlier_rule_in_a_late_way_comes_first(self):
        early = Rule(0, [(), ("beyond",)] + [()] * 6, ("a", 0), ways=(1, 2))
        book = Book(1, [early, Rule(0, ANYWHERE, ("b", 0))], [None])
        rows = ((0, 0), (0, 0))
        self.assertEqual(draw(book, rows), ((("b", 0), ("a", 1)), (("a", 2), ("a", 1))))
        self.assertEqual(chosen(book, rows, 1, 0), (0, 2))

    def test_pictures_are_told_with_the_least_way(self):
        book = Book(2, [Rule(0, ANYWHERE, ("a", 3), ways=(4,))], [None, ("b", 6)], symmetries={"a": (0, 1, 2, 3)})
        self.assertEqual(draw(book, ((0, 1),)), ((("a", 4), ("b", 6)),))
        book = Book(2, [Rule(0, ANYWHERE, ("a", 3))], [None, ("b", 6)], symmetries={"b": (0, 2, 4, 6), "a": (0, 2)})
        self.assertEqual(draw(book, ((0, 1),)), ((("a", 1), ("b", 0)),))

    def test_a_book_without_rules(self):
        self.assertEqual(draw(Book(2, [], [None, ("a", 0)]), ((0, 1), (1, 0))),
                         ((None, ("a", 0)), (("a", 0), None)))
        self.assertIsNone(chosen(Book(1, [], [("a", 0)]), ((0,),), 0, 0))

    def test_a_book_at_the_limits(self):
        book = full_book()
        for ends in (("open", "open"), ("wrap", "wrap")):
            self.assertEqual(draw(book, great_map(), ends=ends), drawing_of(book, great_map(), ends))
        joined = book + book
        self.assertEqual(draw(joined, great_map(), ends=("wrap", "wrap"))[0][:3], (("b", 1), None, ("c", 3)))
        self.assertEqual(draw(joined, ((0, 1) * 100,))[0][5], ("a", 0))

    def test_the_same_call_again(self):
        for book in made_books(6, 73):
            for rows in made_maps(book.kinds, 1):
                first = draw(book, rows)
                draw(book.turned(1), rows, ends=("wrap", "open"))
                self.assertEqual(draw(book, rows), first)
                again = Book(book.kinds, book.rules, book.lasts, symmetries=book.symmetries)
                self.assertEqual(draw(again, tuple(tuple(list(row)) for row in rows)), first)
                self.assertEqual(chosen(book, rows, 0, 0), chosen(again, rows, 0, 0))

    def test_by_name(self):
        book, rows, ends = some_book(), ((0, 1), (1, 1)), ("wrap", "open")
        expected = drawing_of(book, rows, ends)
        self.assertEqual(draw(book=book, rows=rows, ends=ends), expected)
        self.assertEqual(draw(ends=ends, rows=rows, book=book), expected)
        choice = choice_of(book, *window_of(rows, 1, 0, ends))
        self.assertEqual(chosen(book=book, rows=rows, row=1, column=0, ends=ends), choice)
        self.assertEqual(chosen(ends=ends, column=0, row=1, rows=rows, book=book), choice)

    def test_rows_and_columns_are_not_exchanged(self):
        book = Book(2, [Rule(1, ANYWHERE, ("a", 0))], [None, None])
        self.assertEqual(chosen(book, ((0, 1, 0), (0, 0, 0)), 0, 1), (0, 0))
        self.assertIsNone(chosen(book, ((0, 1, 0), (0, 0, 0)), 1, 0))
        self.assertEqual(chosen(book, ((0, 0, 0), (0, 0, 1)), 1, 2), (0, 0))

    def test_ends_only_by_name(self):
        self.assertRaises(TypeError, draw, some_book(), ((0,),), ("open", "open"))
        self.assertRaises(TypeError, chosen, some_book(), ((0,),), 0, 0, ("open", "open"))


class WrongArgumentsTest(unittest.TestCase):
    def test_draw(self):
        expect_refusals(self, draw, [
            Wrong("book", some_book(), bad_books(), InvalidBook),
            Wrong("rows", ((0, 1, 1), (1, 0, 1)), bad_maps_below(2), InvalidMap),
            Wrong("ends", ("open", "wrap"), bad_ends(), InvalidEnds, only_named=True),
        ])

    def test_chosen(self):
        expect_refusals(self, chosen, [
            Wrong("book", some_book(), bad_books(), InvalidBook),
            Wrong("rows", ((0, 1, 1), (1, 0, 1)), bad_maps_below(2), InvalidMap),
            Wrong("row", 1, things_outside(0, 1), InvalidCell),
            Wrong("column", 2, things_outside(0, 2), InvalidCell),
            Wrong("ends", ("open", "wrap"), bad_ends(), InvalidEnds, only_named=True),
        ])

    def test_kinds_are_below_the_number_of_kinds(self):
        for kinds in (1, 2, 3):
            book = Book(kinds, [], [None] * kinds)
            self.assertEqual(draw(book, ((kinds - 1,),)), ((None,),))
            self.assertIsNone(chosen(book, ((0, kinds - 1),), 0, 1))
            rows = Wrong("rows", ((0,),), bad_maps_below(kinds), InvalidMap)
            expect_refusals(self, draw, [Wrong("book", book, [], InvalidBook), rows])


if __name__ == "__main__":
    unittest.main()
