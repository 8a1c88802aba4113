"""Promises [11], [14] and [15]: what matters, turns that are kept, beyond as a kind, held against all small maps."""

import unittest

from cellpictures.books import Book
from cellpictures.drawing import draw
from cellpictures.errors import InvalidBook, InvalidEnds, InvalidNumber, InvalidWay
from cellpictures.maps import turned_ends, turned_map
from cellpictures.questions import frames, kept_ways, matters, unframed, unkept
from cellpictures.rules import Rule
from tests.all_maps import THREE, Drawer, framed, maps_of, rare_books, turned_drawing, windows_in
from tests.helping import (ALL_ENDS, GREAT, Wrong, bad_books, bad_ends, expect_error, expect_refusals, made_books,
                           some_book, things_outside, turned, with_condition)

# How far down and right of a cell its places are, and the cell itself.
STEPS = ((-1, -1), (-1, 0), (-1, 1), (0, 1), (1, 1), (1, 0), (1, -1), (0, -1), (0, 0))
MAPS = {kinds: list(maps_of(kinds, THREE)) for kinds in (1, 2, 3)}
ALIKE = (("open", "open"), ("wrap", "wrap"))
UNLIKE = (("open", "wrap"), ("wrap", "open"))
ALL_WAYS = tuple(range(8))


def small_books():
    """Books with one and two kinds."""
    return [book for book in made_books(36, 91) if book.kinds < 3]


def edge_book(place, ways, symmetries, last=("b", 0)):
    """A book that draws edges in some ways, all of which look the same."""
    edge = Rule(0, with_condition(place, ("other",)), ("a", 0), ways=ways)
    return Book(2, [edge], [last, last], symmetries={"a": symmetries, "b": ALL_WAYS})


def even_books():
    """Books that keep some turns, and some that take what lies beyond for a kind."""
    told = [edge_book(1, (0,), (0,)), edge_book(1, (0,), (0, 4)), edge_book(3, (0,), (0, 6)),
            edge_book(1, (2, 0), (0, 2)), edge_book(1, (0, 2), (0, 2, 4, 6)), edge_book(2, (0,), (0, 5)),
            edge_book(1, (3, 2, 1, 0), (0, 1, 2, 3)), edge_book(1, (0, 1, 2, 3), ALL_WAYS),
            edge_book(1, ALL_WAYS, (0, 2, 4, 6)), edge_book(2, (0, 2), (0, 2, 4, 6), None)]
    for ways in ({}, {"a": (0, 4)}, {"a": ALL_WAYS}, {"a": ALL_WAYS, "b": ALL_WAYS, "c": ALL_WAYS}):
        both = Rule(1, with_condition(0, (0, "beyond")), ("a", 0), ways=ALL_WAYS)
        told.append(Book(2, [both], [("b", 0), ("c", 0)], symmetries=ways))
    told += [Book(2, [], [None, None]), Book(1, [], [("a", 0)], symmetries={"a": ALL_WAYS}), Book(1, [], [("a", 0)])]
    other = Rule(None, with_condition(3, ("other", "beyond")), ("a", 0), ways=(0, 1, 2, 3))
    same = Rule(None, with_condition(3, ("same", "beyond")), ("a", 0), ways=(0, 1, 2, 3))
    return told + [Book(2, [rule], [("b", 0), ("c", 0)], symmetries={"a": (0, 6)}) for rule in (other, same)]


def places_that_matter(book, ends, maps=None):
    """Gone through by all windows of all small maps, each two that differ at one place alone."""
    drawer = Drawer(book, ends)
    windows = {window for rows in maps or MAPS[book.kinds] for line in windows_in(rows, ends) for window in line}
    found = set()
    for middle, around in windows:
        picture = drawer.choice_and_picture((middle, around))[1]
        kinds = [*around, middle]
        for place in range(9):
            for kind in range(book.kinds) if kinds[place] is not None else ():
                changed = [*kinds[:place], kind, *kinds[place + 1:]]
                second = (changed[8], tuple(changed[:8]))
                if second in windows and drawer.choice_and_picture(second)[1] != picture:
                    found.add(place)
    return tuple(sorted(found))


def least_unkept(book, way, ends):
    """Gone through by all small maps, turned here, whose drawings are turned here."""
    drawer = Drawer(book, ends)
    for rows in MAPS[book.kinds]:
        if drawer.draw(turned(rows, way)) != turned_drawing(book.symmetries, drawer.draw(rows), way):
            return rows
    return None


def least_unframed(book, kind):
    drawer = Drawer(book)
    for rows in MAPS[book.kinds]:
        inner = tuple(line[1:-1] for line in drawer.draw(framed(rows, kind))[1:-1])
        if inner != drawer.draw(rows):
            return rows
    return None


class MattersTest(unittest.TestCase):
    def test_held_against_all_windows(self):
        told = set()
        for number, book in enumerate(small_books() + rare_books(2, 18, 92)):
            for ends in ALL_ENDS:
                with self.subTest(number=number, ends=ends):
                    expected = places_that_matter(book, ends)
                    self.assertEqual(matters(book, ends=ends), expected)
                    told.add(expected)
        self.assertEqual({place for places in told for place in places}, set(range(9)))
        self.assertGreater(len(told), 15)

    def test_three_kinds(self):
        for number, book in enumerate(made_books(6, 93)[2::3]):
            with self.subTest(number=number):
                self.assertEqual(matters(book, ends=ALL_ENDS[number]), places_that_matter(book, ALL_ENDS[number]))

    def test_each_place_by_itself(self):
        for place in range(8):
            book = Book(2, [Rule(None, with_condition(place, (1,)), ("a", 0))], [("b", 0), ("b", 0)])
            for ends in ALL_ENDS:
                self.assertEqual(matters(book, ends=ends), (place,))
        self.assertEqual(matters(Book(2, [], [("a", 0), ("b", 0)])), (8,))
        self.assertEqual(matters(Book(2, [], [("a", 0), None])), (8,))
        self.assertEqual(matters(Book(2, [], [("a", 0), ("a", 0)])), ())

    def test_only_with_kinds_at_the_place_on_both(self):
        for place in range(8):
            book = Book(2, [Rule(None, with_condition(place, ("beyond",)), ("a", 0))], [("b", 0), ("b", 0)])
            for ends in ALL_ENDS:
                self.assertEqual(matters(book, ends=ends), ())

    def test_only_windows_of_maps_with_the_given_ends(self):
        book = Book(2, [Rule(None, [(), ("beyond",), (), (1,), (), (), (), ()], ("a", 0))], [("b", 0), ("b", 0)])
        self.assertEqual([matters(book, ends=ends) for ends in ALL_ENDS], [(3,), (), (3,), ()])
        never = Book(2, [Rule(None, [("beyond",), (1,), (), (), (), (), (), (0,)], ("a", 0))], [("b", 0), ("b", 0)])
        self.assertEqual(matters(never), ())

    def test_same_and_other_hang_on_the_middle(self):
        book = Book(2, [Rule(None, with_condition(6, ("other",)), ("a", 0))], [("b", 0), ("b", 0)])
        self.assertEqual(matters(book), (6, 8))

    def test_one_kind(self):
        book = Book(1, [Rule(0, with_condition(1, (0,)), ("a", 0))], [("b", 0)])
        for ends in ALL_ENDS:
            self.assertEqual(matters(book, ends=ends), ())

    def test_what_looks_the_same_does_not_matter(self):
        rules = [Rule(None, with_condition(2, (1,)), ("a", 2))]
        self.assertEqual(matters(Book(2, rules, [("a", 0), ("a", 0)])), (2,))
        self.assertEqual(matters(Book(2, rules, [("a", 0), ("a", 0)], symmetries={"a": (0, 2)})), ())

    def test_where_a_cell_changes_only_cells_for_which_it_matters_can_change(self):
        for book in made_books(9, 94):
            places = matters(book)
            rows = ((0,) * 5,) * 5
            changed = rows[:2] + ((0, 0, book.kinds - 1, 0, 0),) + rows[3:]
            before, after = draw(book, rows), draw(book, changed)
            may = {(2 - STEPS[place][0], 2 - STEPS[place][1]) for place in places}
            self.assertLessEqual({(r, c) for r in range(5) for c in range(5) if before[r][c] != after[r][c]}, may)


class KeptTest(unittest.TestCase):
    def check_kept(self, book, ends):
        ways = ALL_WAYS if ends in ALIKE else (0, 2, 4, 6)
        least = {way: least_unkept(book, way, ends) for way in ways}
        self.assertEqual(kept_ways(book, ends=ends), tuple(way for way in ways if least[way] is None))
        for way in ways:
            self.assertEqual(unkept(book, way, ends=ends), least[way])
        return tuple(way for way in ways if least[way] is None)

    def test_held_against_all_maps(self):
        told = set()
        for number, book in enumerate(small_books()[::3] + even_books() + rare_books(2, 6, 95)):
            for ends in ALL_ENDS:
                with self.subTest(number=number, ends=ends):
                    told.add(self.check_kept(book, ends))
        self.assertLessEqual({(0,), ALL_WAYS, (0, 2), (0, 4), (0, 6), (0, 2, 4, 6), (0, 1, 2, 3)}, told)

    def test_way_0_is_always_kept(self):
        for book in small_books():
            for ends in ALL_ENDS:
                self.assertIn(0, kept_ways(book, ends=ends))
                self.assertIsNone(unkept(book, 0, ends=ends))

    def test_by_hand(self):
        shore = Rule(0, with_condition(1, (1,)), ("shore", 0), ways=(0, 1, 2, 3))
        book = Book(2, [shore], [("sea", 0), ("land", 0)])
        self.assertEqual(kept_ways(book), (0,))
        self.assertEqual(unkept(book, 1), ((0,),))
        even = Book(2, [shore], [("sea", 0), ("land", 0)],
                    symmetries={"sea": ALL_WAYS, "land": ALL_WAYS, "shore": (0, 4)})
        # Where two sides are the shore, the first way is chosen, whatever the map was turned by.
        self.assertEqual(kept_ways(even), (0,))
        self.assertEqual([unkept(even, way) for way in (1, 2, 4)], [((1, 0, 1),)] * 3)
        lone = Rule(0, [(), (1,), (), ("same", "beyond"), (), ("same", "beyond"), (), ("same", "beyond")],
                    ("shore", 0), ways=(0, 1, 2, 3))
        lonely = Book(2, [lone], [("sea", 0), ("land", 0)], symmetries=even.symmetries)
        self.assertEqual(kept_ways(lonely), ALL_WAYS)

    def test_the_least_map_itself_is_told_not_the_turned_one(self):
        book = Book(2, [Rule(0, [(), (1,), (), (), (), (), (), (1,)], ("b", 0))], [("a", 0), ("a", 0)],
                    symmetries={"a": ALL_WAYS, "b": ALL_WAYS})
        self.assertEqual(unkept(book, 1), ((0, 1), (1, 0)))
        pointed = Book(2, [Rule(0, [(), (0,), (), (), (), (1,), (), ()], ("b", 0))], [("a", 0), ("a", 0)],
                       symmetries={"a": ALL_WAYS, "b": ALL_WAYS})
        across, other_across, down = ((0, 0, 1),), ((1, 0, 0),), ((0,), (0,), (1,))
        self.assertEqual([unkept(pointed, way) for way in range(8)],
                         [None, across, down, other_across, None, other_across, down, across])
        self.assertEqual(draw(pointed, turned_map(across, 1))[1], (("b", 0),))
        self.assertEqual(draw(pointed, turned_map(other_across, 1))[1], (("a", 0),))

    def test_what_is_told_parts_the_drawings(self):
        for book in even_books():
            for ends in ALIKE:
                for way in range(8):
                    rows = unkept(book, way, ends=ends)
                    if rows is not None:
                        told = draw(book, turned_map(rows, way), ends=turned_ends(ends, way))
                        self.assertNotEqual(told, draw(book.turned(way), turned_map(rows, way), ends=ends))

    def test_odd_ways_where_the_ends_are_not_alike(self):
        book = some_book()
        for ends in UNLIKE:
            for way in (1, 3, 5, 7):
                expect_error(self, InvalidEnds, {"thing": ends}, unkept, book, way, ends=ends)
                expect_error(self, InvalidEnds, {"thing": ends}, unkept, ends=ends, way=way, book=book)
            for way in (0, 2, 4, 6):
                self.assertEqual(unkept(book, way, ends=ends), least_unkept(book, way, ends))
            self.assertEqual([way for way in kept_ways(book, ends=ends) if way % 2], [])
        for ends in ALIKE:
            for way in range(8):
                self.assertEqual(unkept(book, way, ends=ends), least_unkept(book, way, ends))


class FramesTest(unittest.TestCase):
    def test_held_against_all_maps(self):
        told = set()
        for number, book in enumerate(small_books() + even_books() + rare_books(2, 18, 96) + rare_books(1, 6, 97)):
            with self.subTest(number=number):
                least = [least_unframed(book, kind) for kind in range(book.kinds)]
                self.assertEqual(frames(book), tuple(kind for kind in range(book.kinds) if least[kind] is None))
                self.assertEqual([unframed(book, kind) for kind in range(book.kinds)], least)
                told.add((book.kinds, frames(book)))
        self.assertEqual(told, {(1, ()), (1, (0,)), (2, ()), (2, (0,)), (2, (1,)), (2, (0, 1))})

    def test_by_hand(self):
        sea = Book(2, [Rule(1, with_condition(1, (0, "beyond")), ("a", 0))], [("b", 0), ("c", 0)])
        self.assertEqual(frames(sea), (0,))
        self.assertIsNone(unframed(sea, 0))
        self.assertEqual(unframed(sea, 1), ((1,),))
        corner = Book(2, [Rule(None, [("beyond",), (0,), (), (), (), (), (), (1,)], ("a", 0))], [("b", 0), ("b", 0)])
        self.assertEqual(frames(corner), (0, 1))
        aslant = Book(2, [Rule(None, [("beyond", 1), (0,), (), (), (), (), (), ("beyond",)], ("a", 0))], [None, None])
        self.assertEqual(unframed(aslant, 0), ((0,), (0,)))
        self.assertEqual(unframed(aslant, 1), ((0,), (0,)))

    def test_frames_have_corners(self):
        book = Book(1, [Rule(0, with_condition(0, ("beyond",)), ("a", 0))], [("b", 0)])
        self.assertEqual(frames(book), ())
        self.assertEqual(frames(Book(1, [Rule(0, with_condition(0, ("beyond", 0)), ("a", 0))], [("b", 0)])), (0,))


class ArgumentsTest(unittest.TestCase):
    def test_ends_not_passed_are_open(self):
        for book in small_books() + rare_books(2, 9, 98):
            self.assertEqual(matters(book), matters(book, ends=("open", "open")))
            self.assertEqual(kept_ways(book), kept_ways(book, ends=("open", "open")))
            for way in range(8):
                self.assertEqual(unkept(book, way), unkept(book, way, ends=("open", "open")))

    def test_by_name(self):
        book = some_book()
        for ends in ALL_ENDS:
            self.assertEqual(matters(ends=ends, book=book), matters(book, ends=ends))
            self.assertEqual(kept_ways(ends=ends, book=book), kept_ways(book, ends=ends))
            self.assertEqual(unkept(ends=ends, way=6, book=book), unkept(book, 6, ends=ends))
        self.assertEqual(unkept(book, way=3), unkept(book, 3))
        self.assertEqual(frames(book=book), frames(book))
        self.assertEqual(unframed(kind=1, book=book), unframed(book, 1))

    def test_ends_only_by_name(self):
        self.assertRaises(TypeError, matters, some_book(), ("open", "open"))
        self.assertRaises(TypeError, kept_ways, some_book(), ("open", "open"))
        self.assertRaises(TypeError, unkept, some_book(), 0, ("open", "open"))

    def test_wrong_arguments(self):
        book = Wrong("book", some_book(), bad_books(), InvalidBook)
        ends = Wrong("ends", ("open", "wrap"), bad_ends(), InvalidEnds, only_named=True)
        expect_refusals(self, matters, [book, ends])
        expect_refusals(self, kept_ways, [book, ends])
        expect_refusals(self, unkept, [book, Wrong("way", 7, things_outside(0, 7), InvalidWay), ends])
        expect_refusals(self, frames, [book])
        expect_refusals(self, unframed, [book, Wrong("kind", 1, things_outside(0, 1), InvalidNumber)])

    def test_kinds_are_those_of_the_book(self):
        for kinds in (1, 2):
            book = Book(kinds, [], [None] * kinds)
            for kind in range(kinds):
                self.assertIsNone(unframed(book, kind))
            for thing in (kinds, kinds + 1, -1, GREAT, True, None):
                expect_error(self, InvalidNumber, {"thing": thing}, unframed, book, thing)

    def test_answers_are_tuples(self):
        for book in even_books():
            for told in (matters(book), kept_ways(book), frames(book)):
                self.assertIs(type(told), tuple)
            for told in (unkept(book, 1), unframed(book, 0)):
                self.assertIn(type(told), (tuple, type(None)))

    def test_asked_again_and_in_another_order(self):
        for book in even_books()[::7]:
            first = (matters(book), kept_ways(book), unkept(book, 5), frames(book), unframed(book, 0))
            again = (unframed(book, 0), frames(book), unkept(book, 5), kept_ways(book), matters(book))
            self.assertEqual(again[::-1], first)


if __name__ == "__main__":
    unittest.main()
