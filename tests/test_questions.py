"""Promise [10]: what books draw, miss, use and need on all maps, held against all maps up to three rows and columns."""

import unittest

from cellpictures.books import Book
from cellpictures.drawing import draw
from cellpictures.errors import InvalidBook, InvalidEnds, UnlikeBooks
from cellpictures.questions import missing, needless, parting, pictures, unused_lasts, unused_rules
from cellpictures.rules import Rule
from cellpictures.searching import all_windows
from tests.all_maps import THREE, Drawer, maps_of, only_at, rare_books, some_windows, windows_in
from tests.helping import (ALL_ENDS, Wrong, bad_books, bad_ends, expect_error, expect_refusals, made_books, some_book,
                           with_condition)

ANYWHERE = ((),) * 8
FAR_LEFT = [()] * 7 + [("beyond",)]

MAPS = {kinds: list(maps_of(kinds, THREE)) for kinds in (1, 2, 3)}


def small_books():
    """Books with one and two kinds."""
    return [book for book in made_books(36, 81) if book.kinds < 3]


def least_missing(book, ends):
    drawer = Drawer(book, ends)
    return next((rows for rows in MAPS[book.kinds] if any(None in line for line in drawer.draw(rows))), None)


def drawn_pictures(book, ends):
    drawer = Drawer(book, ends)
    found = {picture for rows in MAPS[book.kinds] for line in drawer.draw(rows) for picture in line}
    return tuple(sorted(found - {None}))


def used_choices(book, ends):
    drawer = Drawer(book, ends)
    return {choice for rows in MAPS[book.kinds] for choice in drawer.choices(rows)}


def least_parting(book, other, ends):
    drawer, second = Drawer(book, ends), Drawer(other, ends)
    return next((rows for rows in MAPS[book.kinds] if drawer.draw(rows) != second.draw(rows)), None)


def book_less(book, number):
    rules = [rule for place, rule in enumerate(book.rules) if place != number]
    return Book(book.kinds, rules, book.lasts, symmetries=book.symmetries)


class WindowsTest(unittest.TestCase):
    def test_all_windows_are_those_of_small_maps(self):
        for kinds, many in ((1, 16), (2, 866), (3, 23016)):
            for ends in ALL_ENDS if kinds < 3 else (("open", "open"), ("wrap", "open")):
                told = all_windows(kinds, ends)
                self.assertEqual(set(told), {window for rows in MAPS[kinds] for line in windows_in(rows, ends)
                                             for window in line})
                self.assertEqual(len(told), len(set(told)))
                if ends == ("open", "open"):
                    self.assertEqual(len(told), many)


class HeldAgainstAllMapsTest(unittest.TestCase):
    def check_shown(self, book, ends):
        """The questions that are asked of books with up to three kinds."""
        choices = used_choices(book, ends)
        rules, lasts = range(len(book.rules)), range(book.kinds)
        self.assertEqual(missing(book, ends=ends), least_missing(book, ends))
        self.assertEqual(pictures(book, ends=ends), drawn_pictures(book, ends))
        self.assertEqual(unused_rules(book, ends=ends),
                         tuple(number for number in rules if ("rule", number) not in choices))
        self.assertEqual(unused_lasts(book, ends=ends),
                         tuple(kind for kind in lasts if book.lasts[kind] and ("last", kind) not in choices))

    def test_books_with_one_and_two_kinds(self):
        for number, book in enumerate(small_books()):
            for ends in ALL_ENDS:
                with self.subTest(number=number, ends=ends):
                    self.check_shown(book, ends)

    def test_books_with_three_kinds(self):
        for number, book in enumerate(made_books(12, 82)[2::3]):
            with self.subTest(number=number):
                self.check_shown(book, ALL_ENDS[number])

    def test_books_that_draw_a_single_window_otherwise(self):
        for ends in ALL_ENDS:
            for number, book in enumerate(rare_books(2, 18, 83, ends) + rare_books(1, 6, 84, ends)):
                with self.subTest(number=number, ends=ends):
                    self.check_shown(book, ends)

    def test_windows_that_other_ends_do_not_have(self):
        for window_ends in ALL_ENDS:
            for number, book in enumerate(rare_books(2, 10, 85, window_ends)):
                for ends in ALL_ENDS:
                    with self.subTest(number=number, window_ends=window_ends, ends=ends):
                        self.check_shown(book, ends)

    def test_needless(self):
        told = set()
        for number, book in enumerate(small_books()):
            for ends in ALL_ENDS:
                with self.subTest(number=number, ends=ends):
                    expected = tuple(rule for rule in range(len(book.rules))
                                     if least_parting(book, book_less(book, rule), ends) is None)
                    self.assertEqual(needless(book, ends=ends), expected)
                    told.add(expected)
        self.assertGreater(len(told), 4)

    def test_parting(self):
        books = small_books()
        for number, book in enumerate(books):
            for other in books[number::5]:
                if other.kinds == book.kinds:
                    for ends in ALL_ENDS:
                        with self.subTest(number=number, ends=ends):
                            self.assertEqual(parting(book, other, ends=ends), least_parting(book, other, ends))

    def test_parting_of_books_that_draw_a_single_window_otherwise(self):
        seen = set()
        for ends in ALL_ENDS:
            for number, window in enumerate(some_windows(2, 36, 86, ends)):
                book = Book(2, [], [("a", 0), ("b", 0)])
                other = Book(2, [only_at(window, ("a", 1))], [("a", 0), ("b", 0)])
                expected = least_parting(book, other, ends)
                self.assertEqual(parting(book, other, ends=ends), expected)
                self.assertEqual(parting(other, book, ends=ends), expected)
                seen.add((len(expected), len(expected[0])))
        self.assertEqual(seen, set(THREE))

    def test_answers_are_tuples(self):
        for book in small_books():
            for question in (pictures, unused_rules, unused_lasts, needless):
                told = question(book)
                self.assertIs(type(told), tuple)
                self.assertEqual(list(told), sorted(told))


class MissingTest(unittest.TestCase):
    def test_by_hand(self):
        self.assertIsNone(missing(Book(2, [], [("a", 0), ("b", 0)])))
        self.assertEqual(missing(Book(2, [], [None, None])), ((0,),))
        self.assertEqual(missing(Book(2, [], [("a", 0), None])), ((1,),))
        self.assertEqual(missing(Book(3, [], [("a", 0), ("a", 0), None])), ((2,),))
        self.assertIsNone(missing(Book(2, [Rule(None, ANYWHERE, ("a", 0))], [None, None])))

    def test_fewest_rows_decide(self):
        beside = [Rule(None, with_condition(place, ("beyond",)), ("a", 0)) for place in (7, 3)]
        above = [Rule(None, with_condition(place, ("beyond",)), ("a", 0)) for place in (1, 5)]
        self.assertEqual(missing(Book(2, beside, [None, None])), ((0, 0, 0),))
        self.assertEqual(missing(Book(2, above, [None, None])), ((0,), (0,), (0,)))
        self.assertEqual(missing(Book(2, beside + above, [None, None])), ((0, 0, 0),) * 3)
        lonely = Rule(None, [(), ("beyond",), (), ("beyond",), (), ("beyond",), (), ("beyond",)], ("a", 0))
        self.assertEqual(missing(Book(2, [lonely], [None, None])), ((0, 0),))
        flat = Rule(None, [(), ("beyond",), (), (), (), ("beyond",), (), ()], ("a", 0))
        self.assertEqual(missing(Book(2, [flat], [None, None])), ((0,), (0,)))
        narrow = Rule(None, [(), (), (), ("beyond",), (), (), (), ("beyond",)], ("a", 0))
        self.assertEqual(missing(Book(2, [flat, narrow], [None, None])), ((0, 0), (0, 0)))

    def test_the_tuples_decide(self):
        alike = [Rule(None, with_condition(place, ("same",)), ("a", 0)) for place in (3, 7)]
        alike.append(Rule(None, [(), (), (), ("beyond",), (), (), (), ("beyond",)], ("a", 0)))
        self.assertEqual(missing(Book(2, alike, [None, None])), ((0, 1),))
        self.assertEqual(missing(Book(2, alike + [Rule(0, ANYWHERE, ("a", 0))], [None, None])), ((0, 1),))
        later = [Rule(None, FAR_LEFT, ("a", 0)), *alike, Rule(0, ANYWHERE, ("a", 0))]
        self.assertEqual(missing(Book(2, later, [None, None])), ((0, 1),))
        self.assertEqual(missing(Book(3, alike + [Rule(0, ANYWHERE, ("a", 0)), Rule(1, ANYWHERE, ("a", 0))],
                                      [None] * 3)), ((0, 2),))

    def test_ends(self):
        wrapping = Book(1, [Rule(0, FAR_LEFT, ("a", 0))], [None])
        self.assertEqual(missing(wrapping), ((0, 0),))
        self.assertEqual(missing(wrapping, ends=("wrap", "open")), ((0,),))
        self.assertEqual(missing(wrapping, ends=("open", "wrap")), ((0, 0),))
        self.assertEqual(missing(wrapping, ends=("wrap", "wrap")), ((0,),))
        at_edges = Book(1, [Rule(0, with_condition(1, (0,)), ("a", 0))], [None])
        self.assertEqual(missing(at_edges), ((0,),))
        self.assertIsNone(missing(at_edges, ends=("open", "wrap")))
        self.assertEqual(missing(at_edges, ends=("wrap", "open")), ((0,),))


class PicturesTest(unittest.TestCase):
    def test_as_they_are_told(self):
        book = Book(2, [Rule(0, FAR_LEFT, ("b", 1), ways=(0, 1, 2, 3, 4))], [("a", 3), ("c", 7)],
                    symmetries={"b": (0, 2), "c": (0, 1, 2, 3, 4, 5, 6, 7)})
        self.assertEqual(pictures(book), (("a", 3), ("b", 0), ("b", 1), ("c", 0)))
        self.assertEqual(pictures(book, ends=("wrap", "open")), (("a", 3), ("b", 0), ("c", 0)))
        self.assertEqual(pictures(book, ends=("wrap", "wrap")), (("a", 3), ("c", 0)))

    def test_none_and_ascending(self):
        self.assertEqual(pictures(Book(2, [], [None, None])), ())
        self.assertEqual(pictures(Book(2, [Rule(None, FAR_LEFT, ("b", 0))], [("b", 2), ("ab", 7)])),
                         (("ab", 7), ("b", 0), ("b", 2)))


class UnusedTest(unittest.TestCase):
    def test_rules_hidden_by_earlier_ones(self):
        hidden = Rule(0, with_condition(2, ("same",)), ("b", 0))
        rules = [Rule(0, ANYWHERE, ("a", 0)), hidden, Rule(None, ANYWHERE, ("c", 0)), Rule(1, ANYWHERE, ("d", 0))]
        book = Book(2, rules, [("e", 0), ("f", 0)])
        self.assertEqual(unused_rules(book), (1, 3))
        self.assertEqual(unused_lasts(book), (0, 1))
        halves = [Rule(0, with_condition(0, (thing,)), ("a", 0)) for thing in ("beyond", 0)]
        together = Book(1, [*halves, Rule(None, ANYWHERE, ("a", 0))], [("a", 0)])
        self.assertEqual(unused_rules(together), (2,))
        self.assertEqual(unused_lasts(together), (0,))

    def test_rules_hidden_by_ends(self):
        book = Book(2, [Rule(0, FAR_LEFT, ("a", 0)), Rule(None, with_condition(5, ("beyond",)), ("a", 1))],
                    [("a", 0), None])
        self.assertEqual([unused_rules(book, ends=ends) for ends in ALL_ENDS], [(), (1,), (0,), (0, 1)])

    def test_rules_hidden_by_kinds(self):
        around = [("other",)] + [()] * 7
        self.assertEqual(unused_rules(Book(1, [Rule(0, around, ("a", 0))], [None])), (0,))
        self.assertEqual(unused_rules(Book(2, [Rule(0, around, ("a", 0))], [None, None])), ())
        impossible = Rule(None, [()] * 7 + [("beyond",)], ("a", 0))
        corner = Rule(None, [(0,)] + [()] * 6 + [("beyond",)], ("a", 0))
        self.assertEqual(unused_rules(Book(1, [corner, impossible], [None])), (0,))

    def test_lasts(self):
        rules = [Rule(0, ANYWHERE, ("a", 0))]
        self.assertEqual(unused_lasts(Book(3, rules, [("a", 0), ("a", 0), None])), (0,))
        self.assertEqual(unused_lasts(Book(3, rules, [None, None, None])), ())
        self.assertEqual(unused_lasts(Book(3, [Rule(None, ANYWHERE, ("a", 0))], [None, ("b", 1), ("c", 0)])), (1, 2))
        left = Book(1, [Rule(0, with_condition(place, (0,)), ("a", 0)) for place in (1, 3)], [("b", 0)])
        self.assertEqual([unused_lasts(left, ends=ends) for ends in ALL_ENDS], [(), (0,), (0,), (0,)])

    def test_no_rules(self):
        for ends in ALL_ENDS:
            self.assertEqual(unused_rules(Book(2, [], [None, ("a", 0)]), ends=ends), ())
            self.assertEqual(unused_lasts(Book(2, [], [None, ("a", 0)]), ends=ends), ())
            self.assertEqual(needless(Book(2, [], [None, ("a", 0)]), ends=ends), ())


class NeedlessTest(unittest.TestCase):
    def test_each_rule_by_itself(self):
        twice = Book(2, [Rule(0, FAR_LEFT, ("a", 0)), Rule(0, FAR_LEFT, ("a", 0))], [("b", 0), None])
        self.assertEqual(needless(twice), (0, 1))
        self.assertEqual(needless(twice.without(0)), ())
        self.assertEqual(unused_rules(twice), (1,))

    def test_a_rule_that_is_used_and_needless(self):
        like_last = Book(1, [Rule(0, FAR_LEFT, ("a", 2))], [("a", 4)], symmetries={"a": (0, 6)})
        self.assertEqual(needless(like_last), (0,))
        self.assertEqual(needless(Book(1, [Rule(0, FAR_LEFT, ("a", 2))], [("a", 4)])), ())
        self.assertEqual(unused_rules(like_last), ())

    def test_a_rule_without_which_a_picture_is_missing(self):
        self.assertEqual(needless(Book(1, [Rule(0, FAR_LEFT, ("a", 0))], [None])), ())
        self.assertEqual(needless(Book(1, [Rule(0, FAR_LEFT, ("a", 0))], [None]), ends=("wrap", "open")), (0,))


class PartingTest(unittest.TestCase):
    def test_books_that_draw_alike_though_their_rules_are_others(self):
        book = Book(2, [Rule(0, FAR_LEFT, ("a", 1)), Rule(1, FAR_LEFT, ("a", 1))], [("b", 0), ("b", 0)])
        other = Book(2, [Rule(None, with_condition(1, ("beyond",)), ("a", 2), ways=(3,))], [("b", 2), ("b", 4)],
                     symmetries={"b": (0, 2, 4, 6)})
        self.assertEqual(draw(book, ((0, 1), (1, 1))), draw(other, ((0, 1), (1, 1))))
        self.assertIsNone(parting(book, other))
        self.assertIsNone(parting(book, book))

    def test_each_picture_is_told_by_its_own_book(self):
        book = Book(1, [], [("a", 6)], symmetries={"a": (0, 6)})
        other = Book(1, [], [("a", 0)])
        self.assertIsNone(parting(book, other))
        self.assertEqual(parting(Book(1, [], [("a", 6)]), other), ((0,),))
        self.assertEqual(parting(other, Book(1, [], [("a", 6)], symmetries={"b": (0, 6)})), ((0,),))

    def test_only_one_misses_a_picture(self):
        book, other = Book(2, [], [("a", 0), None]), Book(2, [], [("a", 0), ("a", 0)])
        self.assertEqual(parting(book, other), ((1,),))
        self.assertEqual(parting(other, book), ((1,),))
        self.assertIsNone(parting(book, book.turned(0)))
        self.assertEqual(parting(book, Book(2, [Rule(0, with_condition(4, (1,)), ("b", 0))], [("a", 0), None])),
                         ((0, 0), (0, 1)))

    def test_unlike_books(self):
        for kinds in (1, 2, 3):
            for other_kinds in (1, 2, 3):
                if kinds != other_kinds:
                    books = Book(kinds, [], [None] * kinds), Book(other_kinds, [], [None] * other_kinds)
                    expect_error(self, UnlikeBooks, {}, parting, *books)
                    expect_error(self, UnlikeBooks, {}, parting, other=books[1], book=books[0], ends=("wrap", "open"))

    def test_ends_are_looked_at_before_the_books_are_compared(self):
        expect_error(self, InvalidEnds, {"thing": ("open",)}, parting, Book(1, [], [None]), Book(2, [], [None, None]),
                     ends=("open",))

    def test_unlike_symmetries_are_no_unlike_books(self):
        book = Book(1, [], [("a", 0)], symmetries={"a": (0, 1, 2, 3)})
        self.assertIsNone(parting(book, Book(1, [], [("a", 0)], symmetries={"a": (0, 2)})))


class ArgumentsTest(unittest.TestCase):
    QUESTIONS = (missing, pictures, unused_rules, unused_lasts, needless)

    def test_ends_not_passed_are_open(self):
        for book in small_books() + rare_books(2, 18, 87):
            for question in self.QUESTIONS:
                self.assertEqual(question(book), question(book, ends=("open", "open")))
            other = Book(book.kinds, book.rules[:1], book.lasts)
            self.assertEqual(parting(book, other), parting(book, other, ends=("open", "open")))

    def test_by_name(self):
        book = small_books()[4]
        for question in self.QUESTIONS:
            for ends in ALL_ENDS:
                self.assertEqual(question(ends=ends, book=book), question(book, ends=ends))
            self.assertEqual(question(book=book), question(book))
        other = Book(book.kinds, [], [None] * book.kinds)
        self.assertEqual(parting(ends=("wrap", "open"), other=other, book=book),
                         parting(book, other, ends=("wrap", "open")))

    def test_ends_only_by_name(self):
        for question in self.QUESTIONS:
            self.assertRaises(TypeError, question, some_book(), ("open", "open"))
        self.assertRaises(TypeError, parting, some_book(), some_book(), ("open", "open"))

    def test_wrong_arguments(self):
        book = Wrong("book", some_book(), bad_books(), InvalidBook)
        ends = Wrong("ends", ("open", "wrap"), bad_ends(), InvalidEnds, only_named=True)
        for question in self.QUESTIONS:
            expect_refusals(self, question, [book, ends])
        expect_refusals(self, parting, [book, Wrong("other", some_book(), bad_books(), InvalidBook), ends])

    def test_asked_again_and_in_another_order(self):
        book = made_books(8, 88)[7]
        for ends in ALL_ENDS:
            first = [question(book, ends=ends) for question in self.QUESTIONS]
            again = [question(book, ends=ends) for question in reversed(self.QUESTIONS)]
            self.assertEqual(again[::-1], first)
            copy = Book(book.kinds, list(book.rules), list(book.lasts), symmetries=book.symmetries)
            self.assertEqual([question(copy, ends=tuple(list(ends))) for question in self.QUESTIONS], first)

    def test_what_was_handed_in_may_be_changed_afterwards(self):
        rules, lasts, symmetries = [Rule(0, FAR_LEFT, ("a", 1))], [("a", 2), None], {"a": (0, 2)}
        book = Book(2, rules, lasts, symmetries=symmetries)
        before = [question(book) for question in self.QUESTIONS]
        rules.clear()
        lasts[:] = [None, ("b", 1)]
        symmetries["a"] = (0,)
        book.symmetries["a"] = (0,)
        self.assertEqual([question(book) for question in self.QUESTIONS], before)


if __name__ == "__main__":
    unittest.main()
