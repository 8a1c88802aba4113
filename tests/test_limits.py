"""Promise [3]: the greatest books, drawings and live maps that the limits let, each call within a few seconds."""

import time
import unittest

from cellpictures.back import count_maps, first_map, sure_kinds
from cellpictures.books import Book
from cellpictures.drawing import chosen, draw
from cellpictures.live import Live
from cellpictures.questions import (frames, kept_ways, matters, missing, needless, parting, pictures, unframed, unkept,
                                    unused_lasts, unused_rules)
from cellpictures.rules import Rule
from cellpictures.sides import classes, corner_misfit, misfit, tie_map, ties
from tests.helping import ALL_ENDS, great_map

SECONDS = 5
ROUND = ("wrap", "wrap")
EVERY = ("beyond", "same", "other", 0)


def slow_book(kinds, rules, ways):
    """A book whose rules fail, with most windows, only at a late place."""
    told = []
    for number in range(rules):
        around = [EVERY + (kinds - 1,)] * 7 + [("beyond",)]
        around[number % 7] = ("same", "other", "beyond")
        told.append(Rule(None, around, ("abcd"[number % 4], number % 8), ways=tuple(range(ways))))
    return Book(kinds, told, [("last", kind) for kind in range(kinds)], symmetries={"b": (0, 2), "last": (0, 1, 2, 3)})


class LimitsTest(unittest.TestCase):
    def timed(self, function, *placed, **named):
        start = time.perf_counter()
        answer = function(*placed, **named)
        self.assertLess(time.perf_counter() - start, SECONDS, function.__name__)
        return answer

    def test_questions_of_two_kinds(self):
        for book in (slow_book(2, 8, 5), slow_book(2, 5, 8), slow_book(2, 16, 2), slow_book(1, 16, 2)):
            for ends in ALL_ENDS:
                for question in (missing, pictures, unused_rules, unused_lasts, needless, matters, kept_ways):
                    self.timed(question, book, ends=ends)
                self.assertIsNone(self.timed(parting, book, book.turned(0), ends=ends))
                self.assertIsNone(self.timed(unkept, book, 0, ends=ends))
                self.timed(unkept, book, 4, ends=ends)
            self.timed(frames, book)
            self.timed(unframed, book, 0)

    def test_questions_of_three_kinds(self):
        for book in (slow_book(3, 4, 2), slow_book(3, 1, 8)):
            for ends in ALL_ENDS:
                self.assertIsNone(self.timed(missing, book, ends=ends))
                for question in (pictures, unused_rules, unused_lasts, matters):
                    self.timed(question, book, ends=ends)

    def test_sides(self):
        for book in (slow_book(2, 8, 5), slow_book(2, 5, 8)):
            for ends in ALL_ENDS:
                signs = {name: ("x",) * 4 for name in {name for name, way in pictures(book, ends=ends)}}
                self.timed(ties, book, ends=ends)
                self.timed(classes, book, ends=ends)
                self.assertIsNone(self.timed(tie_map, book, ("zz", 0), ("zz", 1), ends=ends))
                self.assertIsNone(self.timed(misfit, book, signs, ends=ends))
                self.assertIsNone(self.timed(corner_misfit, book, signs, ends=ends))

    def test_told_back(self):
        for kinds, width in ((1, 16), (2, 4), (3, 2)):
            book = slow_book(kinds, 16, 5)
            drawing = (("?",) * width,) * 8
            for ends in (("open", "open"), ("wrap", "open")):
                self.assertEqual(self.timed(count_maps, book, drawing, ends=ends), kinds ** (8 * width))
                self.assertEqual(self.timed(first_map, book, drawing, ends=ends), ((0,) * width,) * 8)
                self.timed(sure_kinds, book, drawing, ends=ends)

    def test_told_back_around(self):
        for kinds, width in ((1, 16), (2, 3), (3, 1)):
            book = slow_book(kinds, 16, 5)
            drawing = (("?",) * width,) * 6
            for ends in (("open", "wrap"), ROUND):
                self.assertEqual(self.timed(count_maps, book, drawing, ends=ends), kinds ** (6 * width))
                self.assertEqual(self.timed(first_map, book, drawing, ends=ends), ((0,) * width,) * 6)
                self.timed(sure_kinds, book, drawing, ends=ends)

    def test_live_maps(self):
        book, rows = slow_book(3, 16, 5), great_map()
        for ends in (("open", "open"), ROUND):
            live = self.timed(Live, book, rows, ends=ends)
            for number in range(60):
                self.timed(live.change, number % 10, number * 3 % 20, (number + 1) % 3)
            self.assertEqual(live.drawing, self.timed(draw, book, live.rows, ends=ends))
            for _ in range(60):
                self.timed(live.back)
            self.assertEqual((live.rows, len(live)), (rows, 0))

    def test_joined_books(self):
        book = slow_book(3, 16, 5)
        joined = self.timed(lambda: book + book)
        self.assertEqual(len(joined.rules), 35)
        self.timed(draw, joined, great_map(), ends=ROUND)
        self.timed(chosen, joined, great_map(), 9, 19, ends=ROUND)

    def test_beyond_the_limits_no_error_is_raised(self):
        book = slow_book(3, 17, 1)
        self.assertEqual(len(draw(book, ((0, 1, 2) * 10,) * 9)), 9)
        self.assertEqual(count_maps(book, (("?",) * 3,) * 2), 3 ** 6)
        live = Live(book, ((0, 1, 2),))
        for number in range(70):
            live.change(0, number % 3, number % 2)
        self.assertEqual(len(live), 70)


if __name__ == "__main__":
    unittest.main()
