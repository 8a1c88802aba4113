"""Promises [7] to [9]: books, how pictures are told, books that are turned and joined."""

import itertools
import unittest

from cellpictures.books import Book
from cellpictures.drawing import chosen, draw
from cellpictures.errors import (InvalidLasts, InvalidNumber, InvalidPicture, InvalidRules, InvalidSymmetries,
                                 InvalidWay, UnlikeBooks)
from cellpictures.maps import turned_ends, turned_map
from cellpictures.rules import Rule
from tests.helping import (ALL_ENDS, BEHIND, GREAT, Picker, Wrong, all_symmetries, bad_pictures, expect_error,
                           expect_refusals, is_count, is_picture, made_books, made_maps, some_book, some_rule, things,
                           things_outside, told_by, turned, untold_picture_of, window_of)

ANYWHERE = ((),) * 8


def copy_of(book):
    return Book(book.kinds, book.rules, book.lasts, symmetries=book.symmetries)


def is_list(thing):
    return type(thing) in (list, tuple)


def rules_beyond(kinds):
    """Rules that a book with so many kinds cannot have."""
    told = [Rule(kinds, ANYWHERE, ("a", 0)), Rule(kinds + 1, ANYWHERE, ("a", 0)), Rule(GREAT, ANYWHERE, ("a", 0))]
    for place in range(8):
        for condition in ((kinds,), ("same", kinds), (0, "beyond", kinds + 5), (GREAT,)):
            told.append(Rule(0, [condition if place == number else () for number in range(8)], ("a", 0)))
    return told


def bad_rules(kinds):
    """No rules for a book with so many kinds, each with the place that is told of them."""
    right = some_rule()
    told = [(thing, None) for thing in things() if not is_list(thing)] + [(right, None), ({0: right}, None)]
    told += [(thing, 0) for thing in things() if is_list(thing) and thing and type(thing[0]) is not Rule]
    wrong = rules_beyond(kinds) + [None, 0, True, "same", (), [], {}, [right], (right,), some_book(), Rule]
    for place in range(3):
        told += [([right] * place + [thing] + [right] * (2 - place), place) for thing in wrong]
        told += [((right,) * place + (wrong[0], wrong[-1], right), place), ([right] * place + wrong[::-1], place)]
    return told


def bad_lasts():
    """No last pictures for two kinds, each with the place that is told of them."""
    told = [(thing, None) for thing in things() if not is_list(thing) or len(thing) != 2]
    told += [([], None), ([None], None), ([("a", 0)], None), ([None] * 3, None), ((("a", 0),) * 3, None), ("ab", None)]
    told += [({0: None, 1: None}, None), ({("a", 0): 0, ("b", 0): 1}, None), (["a", "b", "c"], None)]
    wrong = [thing for thing in bad_pictures() if thing is not None]
    for thing in wrong:
        told += [([thing, ("a", 0)], 0), ([None, thing], 1), ((("a", 7), thing), 1), ((thing, thing), 0)]
    return told + [((0, 1), 0), (("a", 0), 0), ((("a", 0), 0), 1), ([("a", 0), ["a", 0]], 1)]


def no_symmetries():
    told = []
    for marks in range(256):
        ways = tuple(way for way in range(8) if marks >> way & 1)
        if ways not in all_symmetries():
            told.append(ways)
    return told + [
        (2, 0), (0, 6, 4, 2), (0, 2, 1, 3), (7, 6, 5, 4, 3, 2, 1, 0), (0, 0), (0, 2, 2), (0, 0, 2), [0], [0, 2],
        (0, 8), (-1, 0), (0, GREAT), (False,), (0, True, 2, 3), (0, None), (None,), ("0",), "0", "02", 0, 2, None, True,
        {0: 2}, {0: 0, 2: 2}, ((0,),), ((0, 2),), ([0],), (0, (2,)), (0, "2"), [], {}, "", (0, some_rule()),
        some_book(),
    ]


def bad_symmetries():
    """No symmetries, each with the name that is told of them."""
    told = [(thing, None) for thing in things() if thing is not None and type(thing) is not dict]
    told += [([("a", (0,))], None), ((), None), ("a", None), (some_book(), None), (0, None), (False, None)]
    for key in (None, 0, True, (), ("a",), (0, None)):
        told += [({key: (0,)}, None), ({"a": (0,), key: (0,)}, None), ({key: (0,), "a": (1,)}, None)]
    for thing in no_symmetries():
        told += [({"a": thing}, "a"), ({"b": thing, "a": (0,)}, "b"), ({"c": [0], "b": thing, "d": None}, "b")]
    return told + [
        ({"a": (1,), "B": (1,)}, "B"), ({"a": (1,), "": (1,)}, ""), ({"ab": (1,), "a": (1,), "b": ()}, "a"),
        ({"ab": (1,), "b": (1,), "a": (0,)}, "ab"), ({"a\n": (), "a ": ()}, "a\n"), ({"10": 0, "9": 0}, "10"),
        ({"a": (0,), "b": (0, 2), "c": (0, 1)}, "c"), ({"z": (0, 1), "a": tuple(range(8))}, "z"),
    ]


class PropertiesTest(unittest.TestCase):
    def test_what_was_passed(self):
        rules = [Rule(None, ANYWHERE, ("a", 3)), Rule(2, [("same", 1)] * 8, ("b", 0), ways=(1, 4))]
        book = Book(3, rules, [None, ("a", 7), ("c", 0)], symmetries={"c": (0, 6), "a": (0, 2)})
        self.assertEqual((book.kinds, book.rules, book.lasts), (3, tuple(rules), (None, ("a", 7), ("c", 0))))
        self.assertEqual(list(book.symmetries.items()), [("c", (0, 6)), ("a", (0, 2))])
        self.assertEqual([type(thing) for thing in (book.rules, book.lasts, book.symmetries)], [tuple, tuple, dict])

    def test_none_for_symmetries_is_none_of_them(self):
        for book in (Book(1, [], [None]), Book(1, [], [None], symmetries=None), Book(1, [], [None], symmetries={})):
            self.assertEqual(book.symmetries, {})
            self.assertIs(type(book.symmetries), dict)
        self.assertEqual(Book(1, [], [None]), Book(1, [], [None], symmetries={}))

    def test_lists_and_tuples_are_taken_alike(self):
        rules, lasts = [some_rule(), some_rule()], [("a", 0), None]
        one, second = Book(2, rules, lasts), Book(2, tuple(rules), tuple(lasts))
        self.assertEqual(one, second)
        self.assertEqual((type(one.rules), type(second.rules)), (tuple, tuple))
        self.assertEqual((type(one.lasts), type(second.lasts)), (tuple, tuple))

    def test_by_name(self):
        book = Book(symmetries={"a": (0, 4)}, lasts=[("a", 5)], rules=[Rule(0, ANYWHERE, ("b", 1))], kinds=1)
        self.assertEqual(book, Book(1, [Rule(0, ANYWHERE, ("b", 1))], [("a", 5)], symmetries={"a": (0, 4)}))
        self.assertEqual((book.kinds, book.lasts, book.symmetries), (1, (("a", 5),), {"a": (0, 4)}))

    def test_symmetries_only_by_name(self):
        self.assertRaises(TypeError, Book, 1, [], [None], {})

    def test_later_changes_have_no_effect(self):
        rules, lasts, symmetries = [some_rule()], [None, ("b", 1)], {"b": (0, 2)}
        book = Book(2, rules, lasts, symmetries=symmetries)
        before = copy_of(book)
        rules[0] = Rule(1, ANYWHERE, ("c", 0))
        rules.append(some_rule())
        lasts[0] = ("c", 0)
        lasts.pop()
        symmetries["b"] = (0,)
        symmetries["c"] = (0, 4)
        self.assertEqual(book, before)
        self.assertEqual((book.rules, book.lasts), ((some_rule(),), (None, ("b", 1))))
        self.assertEqual(book.symmetries, {"b": (0, 2)})
        self.assertEqual(book.looks(("b", 3)), ("b", 1))

    def test_what_is_read_is_new(self):
        for book in (Book(1, [], [("b", 3)], symmetries={"b": (0, 2)}), Book(1, [], [("b", 3)])):
            before, told = copy_of(book), draw(book, ((0,),))
            book.symmetries["c"] = (0, 4)
            book.symmetries["b"] = (0, 6)
            read = book.symmetries
            read.clear()
            read["b"] = (0, 1, 2, 3)
            self.assertIsNot(book.symmetries, book.symmetries)
            self.assertEqual(book, before)
            self.assertEqual(draw(book, ((0,),)), told)


class EqualTest(unittest.TestCase):
    def books(self):
        one, second = Rule(0, ANYWHERE, ("a", 0)), Rule(0, ANYWHERE, ("a", 1))
        return [
            Book(1, [], [None]), Book(2, [], [None, None]), Book(1, [], [("a", 0)]), Book(1, [], [("a", 1)]),
            Book(1, [], [None], symmetries={"a": (0,)}), Book(1, [], [None], symmetries={"a": (0, 2)}),
            Book(1, [], [None], symmetries={"b": (0,)}), Book(1, [], [None], symmetries={"a": (0,), "b": (0,)}),
            Book(1, [one], [None]), Book(1, [second], [None]), Book(1, [one, second], [None]),
            Book(1, [second, one], [None]), Book(1, [one, one], [None]), Book(2, [one], [None, None]),
            Book(2, [one], [None, ("a", 0)]), Book(2, [one], [("a", 0), None]),
        ]

    def test_like_and_unlike_books(self):
        for number, book in enumerate(self.books()):
            for second_number, second in enumerate(self.books()):
                self.assertIs(book == second, number == second_number)
                self.assertIs(book != second, number != second_number)

    def test_the_order_of_the_names_is_nothing(self):
        one = Book(1, [], [None], symmetries={"a": (0,), "b": (0, 2)})
        self.assertEqual(one, Book(1, [], [None], symmetries={"b": (0, 2), "a": (0,)}))

    def test_a_book_and_anything(self):
        book = Book(2, [some_rule()], [None, None])
        whole = (book.kinds, book.rules, book.lasts, book.symmetries)
        for thing in things() + [whole, list(whole), book.rules, [book], (book,)]:
            self.assertIs(book == thing, False)
            self.assertIs(thing == book, False)
            self.assertIs(book != thing, True)


class LooksTest(unittest.TestCase):
    def test_all_ways_and_symmetries(self):
        for ways in all_symmetries():
            book = Book(1, [], [None], symmetries={"a": ways, "c": (0, 6)})
            for way in range(8):
                for name in ("a", "b", "c", "ab", ""):
                    told = book.looks((name, way))
                    self.assertEqual(told, told_by({"a": ways, "c": (0, 6)}, (name, way)))
                    self.assertEqual((type(told), type(told[1])), (tuple, int))
                self.assertEqual(book.looks(picture=("a", way)), book.looks(("a", way)))

    def test_by_hand(self):
        book = Book(1, [], [None], symmetries={"a": (0, 4), "b": (0, 5), "c": (0, 2), "d": (0, 1, 2, 3)})
        self.assertEqual([book.looks(("a", way))[1] for way in range(8)], [0, 1, 2, 3, 0, 1, 2, 3])
        self.assertEqual([book.looks(("b", way))[1] for way in range(8)], [0, 1, 2, 3, 3, 0, 1, 2])
        self.assertEqual([book.looks(("c", way))[1] for way in range(8)], [0, 1, 0, 1, 4, 5, 4, 5])
        self.assertEqual([book.looks(("d", way))[1] for way in range(8)], [0, 0, 0, 0, 4, 4, 4, 4])
        self.assertEqual([book.looks(("e", way))[1] for way in range(8)], list(range(8)))

    def test_the_symmetry_is_done_first(self):
        book = Book(1, [], [None], symmetries={"a": (0, 7)})
        self.assertEqual([book.looks(("a", way))[1] for way in range(8)], [0, 1, 2, 3, 1, 2, 3, 0])

    def test_wrong_pictures(self):
        expect_refusals(self, some_book().looks, [Wrong("picture", ("a", 0), bad_pictures(), InvalidPicture)])


class TurnedTest(unittest.TestCase):
    def test_rules_lasts_and_symmetries(self):
        for book in made_books(30, 41):
            for way in range(8):
                told = book.turned(way)
                self.assertIs(type(told), Book)
                self.assertEqual((told.kinds, told.symmetries), (book.kinds, book.symmetries))
                self.assertEqual(len(told.rules), len(book.rules))
                for rule, second in zip(book.rules, told.rules):
                    ways = [BEHIND[way][own_way] for own_way in rule.ways]
                    self.assertEqual(second, Rule(rule.middle, rule.around, rule.picture, ways=ways))
                lasts = [picture and (picture[0], BEHIND[way][picture[1]]) for picture in book.lasts]
                self.assertEqual(told.lasts, tuple(lasts))
                self.assertEqual(book.turned(way=way), told)

    def test_by_hand(self):
        rule = Rule(0, [("same",)] + [()] * 7, ("a", 2), ways=(0, 5))
        book = Book(2, [rule], [("b", 1), None], symmetries={"b": (0, 2)})
        turned_rule = Rule(0, [("same",)] + [()] * 7, ("a", 2), ways=(4, 3))
        self.assertEqual(book.turned(4), Book(2, [turned_rule], [("b", 7), None], symmetries={"b": (0, 2)}))
        self.assertEqual(book, Book(2, [rule], [("b", 1), None], symmetries={"b": (0, 2)}))

    def test_it_draws_the_turned_map(self):
        for number, book in enumerate(made_books(24, 42)):
            for rows in made_maps(book.kinds, number)[number % 3::3]:
                for ends in ALL_ENDS:
                    for way in range(8):
                        self.check_drawing(book, rows, ends, way)

    def check_drawing(self, book, rows, ends, way):
        moved = [[picture and book.looks((picture[0], BEHIND[way][picture[1]])) for picture in line]
                 for line in draw(book, rows, ends=ends)]
        told = draw(book.turned(way), turned_map(rows, way), ends=turned_ends(ends, way))
        self.assertEqual(told, turned(moved, way))

    def test_the_same_rules_fit(self):
        for number, book in enumerate(made_books(12, 43)):
            rows = Picker(number).map(3, 4, book.kinds)
            choices = [[chosen(book, rows, row, column) for column in range(4)] for row in range(3)]
            for way in range(8):
                moved = turned([[choice and (choice[0], BEHIND[way][choice[1]]) for choice in line]
                                for line in choices], way)
                turned_rows = turned_map(rows, way)
                told = [tuple(chosen(book.turned(way), turned_rows, row, column) for column in range(len(moved[0])))
                        for row in range(len(moved))]
                self.assertEqual(tuple(told), moved)

    def test_turned_twice_and_back(self):
        for book in made_books(6, 44):
            rows = Picker(4).map(4, 3, book.kinds)
            for way in range(8):
                for second in range(8):
                    twice = book.turned(way).turned(second)
                    self.assertEqual(twice, book.turned(BEHIND[second][way]))
                    if BEHIND[second][way] == 0:
                        self.assertEqual(draw(twice, rows), draw(book, rows))

    def test_wrong_ways(self):
        expect_refusals(self, some_book().turned, [Wrong("way", 3, things_outside(0, 7), InvalidWay)])


class JoinedTest(unittest.TestCase):
    def pairs(self, seed):
        """Books with as many kinds, and the same symmetries for names that both have."""
        picker = Picker(seed)
        told = []
        for number in range(45):
            kinds, symmetries = 1 + number % 3, picker.symmetries()
            some = [{name: symmetries[name] for name in symmetries if picker.below(3)} for _ in range(2)]
            told.append((picker.book(kinds, some[0]), picker.book(kinds, some[1])))
        return told

    def test_rules_lasts_and_symmetries(self):
        for one, second in self.pairs(51):
            copies = copy_of(one), copy_of(second)
            told = one + second
            between = [Rule(kind, ANYWHERE, one.lasts[kind], ways=(0,))
                       for kind in range(one.kinds) if one.lasts[kind] is not None]
            self.assertIs(type(told), Book)
            self.assertEqual(told.rules, (*one.rules, *between, *second.rules))
            self.assertEqual((told.kinds, told.lasts), (one.kinds, second.lasts))
            self.assertEqual(told.symmetries, {**one.symmetries, **second.symmetries})
            self.assertEqual((one, second), copies)

    def test_it_draws_what_the_first_one_draws_and_otherwise_what_the_second_one_draws(self):
        seen = []
        for number, (one, second) in enumerate(self.pairs(52)):
            told = one + second
            for rows in made_maps(one.kinds, number)[number % 2::2]:
                for ends in ALL_ENDS:
                    pictures = self.expected(one, second, rows, ends, seen)
                    self.assertEqual(draw(told, rows, ends=ends), pictures)
        self.assertEqual({case for case in seen}, {"first", "second", "missing"})

    def expected(self, one, second, rows, ends, seen):
        symmetries = {**second.symmetries, **one.symmetries}
        lines = []
        for row in range(len(rows)):
            lines.append([])
            for column in range(len(rows[0])):
                window = window_of(rows, row, column, ends)
                first, other = untold_picture_of(one, *window), untold_picture_of(second, *window)
                seen.append("first" if first else "second" if other else "missing")
                lines[row].append(told_by(symmetries, first or other))
        return tuple(tuple(line) for line in lines)

    def test_by_hand(self):
        one = Book(3, [Rule(0, ANYWHERE, ("a", 1))], [("b", 2), None, ("c", 3)], symmetries={"a": (0, 4), "d": (0,)})
        second = Book(3, [Rule(None, ANYWHERE, ("e", 4))], [None, ("f", 5), None],
                      symmetries={"e": (0, 2), "a": (0, 4)})
        rules = [Rule(0, ANYWHERE, ("a", 1)), Rule(0, ANYWHERE, ("b", 2)), Rule(2, ANYWHERE, ("c", 3)),
                 Rule(None, ANYWHERE, ("e", 4))]
        symmetries = {"a": (0, 4), "d": (0,), "e": (0, 2)}
        self.assertEqual(one + second, Book(3, rules, [None, ("f", 5), None], symmetries=symmetries))
        self.assertEqual(draw(one + second, ((0, 1, 2),)), ((("a", 1), ("e", 4), ("c", 3)),))

    def test_told_by_the_symmetries_of_the_joined_book(self):
        one = Book(1, [], [("a", 3)])
        second = Book(1, [], [None], symmetries={"a": (0, 1, 2, 3)})
        self.assertEqual(draw(one, ((0,),)), ((("a", 3),),))
        self.assertEqual(draw(one + second, ((0,),)), ((("a", 0),),))
        self.assertEqual(draw(second + one, ((0,),)), ((("a", 0),),))

    def test_joined_more_than_once(self):
        one, second = Book(1, [], [None]), Book(1, [], [("a", 3)])
        joined = one + second + one
        self.assertEqual(joined, Book(1, [Rule(0, ANYWHERE, ("a", 3))], [None]))
        self.assertEqual(one + one, one)

    def test_unlike_books(self):
        symmetries = [None, {"a": (0,)}, {"a": (0, 2)}, {"a": (0, 2), "b": (0,)}, {"b": (0, 4), "c": (0,)},
                      {"c": (0,)}]
        for kinds, other_kinds in itertools.product((1, 2, 3), repeat=2):
            for one, second in itertools.product(symmetries, repeat=2):
                both = [name for name in one or () if name in (second or ())]
                alike = kinds == other_kinds and all(one[name] == second[name] for name in both)
                books = (Book(kinds, [], [None] * kinds, symmetries=one),
                         Book(other_kinds, [], [("a", 1)] * other_kinds, symmetries=second))
                if alike:
                    self.assertEqual((books[0] + books[1]).symmetries, {**(one or {}), **(second or {})})
                else:
                    expect_error(self, UnlikeBooks, {}, lambda: books[0] + books[1])
                    expect_error(self, UnlikeBooks, {}, lambda: books[1] + books[0])

    def test_anything_on_the_other_side(self):
        book = some_book()
        for thing in things() + [book.rules, some_rule(), [book], Book, UnlikeBooks()]:
            if type(thing) is not Book:
                self.assertRaises(TypeError, lambda: book + thing)
                self.assertRaises(TypeError, lambda: thing + book)
        self.assertRaises(TypeError, sum, [book, book])


class WithoutTest(unittest.TestCase):
    def test_each_rule(self):
        for book in made_books(30, 61):
            for number in range(len(book.rules)):
                rules = [rule for place, rule in enumerate(book.rules) if place != number]
                told = book.without(number)
                self.assertEqual(told, Book(book.kinds, rules, book.lasts, symmetries=book.symmetries))
                self.assertIs(type(told), Book)
                self.assertEqual(book.without(number=number), told)
                self.assertEqual(len(book.rules), len(rules) + 1)

    def test_wrong_numbers(self):
        rules = [Rule(None, ANYWHERE, ("a", way)) for way in range(4)]
        for many in range(5):
            book = Book(1, rules[:many], [None])
            numbers = things_outside(0, many - 1)
            expect_refusals(self, book.without, [Wrong("number", 0, numbers, InvalidNumber)])

    def test_rules_of_a_joined_book(self):
        book = some_book() + some_book()
        self.assertEqual(len(book.rules), 3)
        self.assertEqual(book.without(1).rules, (some_rule(), some_rule()))
        expect_refusals(self, book.without, [Wrong("number", 0, things_outside(0, 2), InvalidNumber)])


class WrongArgumentsTest(unittest.TestCase):
    def test_wrong_arguments(self):
        expect_refusals(self, Book, [
            Wrong("kinds", 2, [thing for thing in things() if not is_count(thing) or thing == 0], InvalidNumber),
            Wrong("rules", [some_rule()], bad_rules(2), InvalidRules, field="place"),
            Wrong("lasts", [None, ("a", 0)], bad_lasts(), InvalidLasts, field="place"),
            Wrong("symmetries", {"a": (0, 2)}, bad_symmetries(), InvalidSymmetries, only_named=True, field="name"),
        ])

    def test_rules_and_lasts_are_asked_by_the_kinds(self):
        for kinds in (1, 2, 3, 4):
            for rule in rules_beyond(kinds):
                for lasts in ([None] * kinds, []):
                    expect_error(self, InvalidRules, {"place": 0}, Book, kinds, [rule], lasts)
            for many in range(6):
                if many != kinds:
                    expect_error(self, InvalidLasts, {"place": None}, Book, kinds, [], [None] * many)

    def test_the_edges_are_let(self):
        for kinds in (1, 2, 3):
            greatest = Rule(kinds - 1, [(kinds - 1, 0, "same", "other", "beyond")] * 8, ("a", 7))
            anywhere = Rule(None, ANYWHERE, ("", 0))
            for rules in ([], [greatest], [anywhere, greatest, greatest], (greatest, anywhere)):
                book = Book(kinds, rules, [("a", 7)] * kinds, symmetries={"": (0, 1, 2, 3)})
                self.assertEqual(book.rules, tuple(rules))

    def test_all_symmetries_are_let(self):
        self.assertEqual(len(all_symmetries()), 10)
        symmetries = {f"name {number}": ways for number, ways in enumerate(all_symmetries())}
        self.assertEqual(Book(1, [], [None], symmetries=symmetries).symmetries, symmetries)

    def test_right_pictures_among_the_things_are_let(self):
        for thing in things():
            if is_picture(thing):
                self.assertEqual(Book(1, [], [thing]).lasts, (thing,))


if __name__ == "__main__":
    unittest.main()
