"""Promise [13]: corners that meet, held against all maps up to four rows and columns."""

import unittest

from cellpictures.books import Book
from cellpictures.errors import InvalidBook, InvalidEnds, InvalidSigns, MissingPicture
from cellpictures.questions import missing, pictures
from cellpictures.rules import Rule
from cellpictures.sides import corner_misfit
from tests.all_maps import FOUR, SEAMS, Drawer, corners_in, maps_of, pair_books, shores
from tests.helping import (ALL_ENDS, BROUGHT, Picker, Wrong, bad_books, bad_ends, bad_signs, expect_error,
                           expect_refusals, made_books, some_book, with_condition, with_sign)

MAPS = {1: list(maps_of(1, FOUR)), 2: list(maps_of(2, SEAMS))}
OPEN, ROUND = ("open", "open"), ("wrap", "wrap")


def do_not_fit(lines, signs, ends):
    """Whether somewhere on a drawing four corners that meet do not have the same sign."""
    return any(len({signs[name][corner] for name, corner in four}) > 1 for four in corners_in(lines, ends))


def least_misfit(book, signs, ends, maps=None):
    drawer = Drawer(book, ends)
    return next((rows for rows in maps or MAPS[book.kinds] if do_not_fit(drawer.draw(rows), signs, ends)), None)


def names_of(book, ends):
    return sorted({name for name, way in pictures(book, ends=ends)})


def whole_books(many, seed):
    """Books with one and two kinds that never miss a picture."""
    told = []
    for book in made_books(many, seed):
        if book.kinds < 3:
            lasts = [picture or ("c", 5) for picture in book.lasts]
            told.append(Book(book.kinds, book.rules, lasts, symmetries=book.symmetries))
    return told


class HeldAgainstAllMapsTest(unittest.TestCase):
    def check(self, book, signs, ends):
        expected = least_misfit(book, signs, ends)
        self.assertEqual(corner_misfit(book, signs, ends=ends), expected)
        return expected

    def test_made_books(self):
        picker, seen = Picker(111), set()
        for number, book in enumerate(whole_books(18, 112)):
            for ends in ALL_ENDS:
                with self.subTest(number=number, ends=ends):
                    names = names_of(book, ends)
                    signs = {name: tuple(picker.pick("xxxxy") for _ in range(4)) for name in names}
                    seen.add(self.check(book, signs, ends))
                    seen.add(self.check(book, {name: ("x",) * 4 for name in names}, ends))
                    self.check(book, with_sign({name: ("x",) * 4 for name in names}, names[-1], 2, "y"), ends)
        self.assertIn(None, seen)
        self.assertGreater(len(seen), 8)

    def test_two_windows_that_are_neighbours(self):
        for ends in ALL_ENDS:
            for number, book in enumerate(pair_books(6, 113, ends)):
                with self.subTest(number=number, ends=ends):
                    signs = {name: ("x",) * 4 for name in "mnz"}
                    self.assertIsNone(corner_misfit(book, signs, ends=ends))
                    self.check(book, with_sign(signs, "m", number % 4, "y"), ends)
                    self.check(book, with_sign(signs, "n", number % 4, ""), ends)

    def test_shores(self):
        book, signs = shores()
        for ends in ALL_ENDS:
            self.assertIsNone(corner_misfit(book, signs, ends=ends))
            for name in sorted(signs):
                for corner in range(4):
                    changed = with_sign(signs, name, corner, "sea" if signs[name][corner] == "land" else "land")
                    self.assertIsNotNone(self.check(book, changed, ends))

    def test_four_rows_and_columns(self):
        book, signs = shores()
        changed = with_sign(signs, "aslant", 2, "sea")
        for ends in (OPEN, ROUND):
            self.assertIsNone(least_misfit(book, signs, ends, maps_of(2, ((4, 4),))))
        self.assertEqual(corner_misfit(book, changed, ends=ROUND), least_misfit(book, changed, ROUND, maps_of(2, FOUR)))


class CornersTest(unittest.TestCase):
    def test_corners_are_brought_by_the_way(self):
        for way in range(8):
            book = Book(1, [], [("a", way)])
            for corner in range(4):
                place = BROUGHT[way].index(2 * corner)
                self.assertEqual(place % 2, 0)
                rows = corner_misfit(book, {"a": tuple("y" if number == place // 2 else "x" for number in range(4))})
                self.assertEqual(rows, ((0, 0), (0, 0)))
        left = Rule(0, with_condition(7, ("beyond",)), ("a", 5))
        book = Book(1, [left], [("b", 0)])
        # Only the right corners of the left column meet others: 5 brings 0 bottom right and 1 top right.
        signs = {"a": ("in", "in", "out", "another"), "b": ("in",) * 4}
        self.assertIsNone(corner_misfit(book, signs))
        self.assertEqual(corner_misfit(book, with_sign(signs, "a", 0, "out")), ((0, 0), (0, 0)))
        self.assertEqual(corner_misfit(book, with_sign(signs, "a", 1, "out")), ((0, 0), (0, 0)))

    def test_corners_are_taken_as_pictures_are_told(self):
        told = Book(1, [Rule(0, with_condition(7, ("beyond",)), ("a", 1))], [("b", 0)], symmetries={"a": (0, 1, 2, 3)})
        signs = {"a": ("out", "in", "in", "out"), "b": ("in",) * 4}
        self.assertIsNone(corner_misfit(told, signs))
        untold = Book(1, told.rules, told.lasts)
        self.assertEqual(corner_misfit(untold, signs), ((0, 0), (0, 0)))

    def test_single_rows_and_columns_that_wrap(self):
        book = Book(1, [], [("a", 0)])
        for ends, sizes in ((OPEN, (2, 2)), (("wrap", "open"), (2, 1)), (("open", "wrap"), (1, 2)), (ROUND, (1, 1))):
            for corner in range(4):
                signs = with_sign({"a": ("x",) * 4}, "a", corner, "y")
                rows = corner_misfit(book, signs, ends=ends)
                self.assertEqual((len(rows), len(rows[0])), sizes)

    def test_where_no_four_meet_all_signs_fit(self):
        lonely = Rule(0, [(), (), (), ("beyond",), (), ("beyond",), (), ()], ("end", 0))
        book = Book(1, [lonely], [("a", 0)])
        signs = {"a": ("x",) * 4, "end": ("x", "y", "z", "")}
        self.assertIsNone(corner_misfit(book, signs))
        self.assertIsNone(corner_misfit(book, {"a": ("x",) * 4}, ends=ROUND))

    def test_rows_and_columns_that_meet_twice(self):
        across = Rule(0, [(), (), (), (1,), (), (), (), ()], ("left", 0))
        book = Book(2, [across], [("a", 0), ("b", 0)])
        base = {name: ("x",) * 4 for name in ("a", "b", "left")}
        for name in sorted(base):
            for corner in range(4):
                for ends in ALL_ENDS:
                    signs = with_sign(base, name, corner, "y")
                    self.assertEqual(corner_misfit(book, signs, ends=ends), least_misfit(book, signs, ends))


class ArgumentsTest(unittest.TestCase):
    def test_missing_pictures_are_told_last_of_all(self):
        book = Book(2, [], [("a", 0), None])
        signs = {"a": ("x", "y", "z", "")}
        expect_error(self, MissingPicture, {}, corner_misfit, book, signs)
        expect_error(self, MissingPicture, {}, corner_misfit, ends=ROUND, signs={**signs, "b": ("x",) * 4}, book=book)
        expect_error(self, MissingPicture, {}, corner_misfit, Book(1, [], [None]), {})
        expect_error(self, InvalidSigns, {"name": "a"}, corner_misfit, book, {})
        expect_error(self, InvalidSigns, {"name": "a"}, corner_misfit, book, {"A": ("x",) * 4})
        expect_error(self, InvalidSigns, {"name": "b"}, corner_misfit, book, {"b": ("x",) * 3})
        expect_error(self, InvalidSigns, {"name": None}, corner_misfit, book, None)
        expect_error(self, InvalidEnds, {"thing": "open"}, corner_misfit, book, {}, ends="open")
        rare = Book(1, [Rule(0, with_condition(7, (0,)), ("a", 0))], [None])
        expect_error(self, MissingPicture, {}, corner_misfit, rare, signs)
        self.assertIsNone(missing(rare, ends=ROUND))
        self.assertEqual(corner_misfit(rare, signs, ends=ROUND), ((0,),))

    def test_first_name_that_is_not_there(self):
        book, signs = shores()
        for lacking in (["bit"], ["half", "full"], ["water", "most"], sorted(signs)):
            less = {name: four for name, four in signs.items() if name not in lacking}
            for ends in ALL_ENDS:
                expect_error(self, InvalidSigns, {"name": min(lacking)}, corner_misfit, book, less, ends=ends)
            expect_error(self, InvalidSigns, {"name": "zz"}, corner_misfit, book, {**less, "zz": ("",) * 5})

    def test_more_names_are_let(self):
        book, signs = shores()
        self.assertIsNone(corner_misfit(book, {**signs, "": ("a", "b", "c", "d"), "zz": ("",) * 4}))

    def test_wrong_arguments(self):
        expect_refusals(self, corner_misfit, [
            Wrong("book", some_book(), bad_books(), InvalidBook),
            Wrong("signs", {"a": ("x",) * 4}, bad_signs(), InvalidSigns, field="name"),
            Wrong("ends", ("open", "wrap"), bad_ends(), InvalidEnds, only_named=True),
        ])

    def test_by_name_and_ends_not_passed(self):
        book, signs = shores()
        changed = with_sign(signs, "bit", 0, "sea")
        for ends in ALL_ENDS:
            expected = least_misfit(book, changed, ends)
            self.assertEqual(corner_misfit(ends=ends, signs=changed, book=book), expected)
        self.assertEqual(corner_misfit(book, changed), corner_misfit(book, changed, ends=OPEN))
        edge = Book(1, [Rule(0, with_condition(7, ("beyond",)), ("left", 0))], [("a", 0)])
        expect_error(self, InvalidSigns, {"name": "left"}, corner_misfit, edge, {"a": ("",) * 4})
        self.assertIsNone(corner_misfit(edge, {"a": ("",) * 4}, ends=ROUND))
        self.assertRaises(TypeError, corner_misfit, book, signs, OPEN)

    def test_signs_may_be_changed_afterwards(self):
        book, signs = shores()
        changed = with_sign(signs, "bit", 0, "sea")
        before, first = repr(changed), corner_misfit(book, changed)
        self.assertEqual(repr(changed), before)
        changed["bit"] = signs["bit"]
        self.assertIsNone(corner_misfit(book, changed))
        self.assertEqual(corner_misfit(book, with_sign(signs, "bit", 0, "sea")), first)


if __name__ == "__main__":
    unittest.main()
