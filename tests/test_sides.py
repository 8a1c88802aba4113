"""Promise [12]: sides that meet, held against all maps up to three rows and four columns, or four and three."""

import itertools
import unittest

from cellpictures.books import Book
from cellpictures.errors import InvalidBook, InvalidEnds, InvalidSide, InvalidSigns
from cellpictures.questions import pictures
from cellpictures.rules import Rule
from cellpictures.sides import classes, misfit, tie_map, ties
from tests.all_maps import SEAMS, Drawer, maps_of, pair_books, seams_in, wires
from tests.helping import (ALL_ENDS, BROUGHT, GREAT, Picker, Wrong, bad_books, bad_ends, bad_signs, expect_error,
                           expect_refusals, made_books, some_book, some_rule, things, with_condition, with_sign)

ANYWHERE = ((),) * 8
MAPS = {kinds: list(maps_of(kinds, SEAMS)) for kinds in (1, 2)}
OPEN, ROUND = ("open", "open"), ("wrap", "wrap")


def small_books(many, seed):
    return [book for book in made_books(many, seed) if book.kinds < 3]


def seams_of_all_maps(book, ends):
    """All maps with the sides that meet on them."""
    drawer = Drawer(book, ends)
    return [(rows, seams_in(drawer.draw(rows), ends)) for rows in MAPS[book.kinds]]


def first_maps(seams):
    """The sides that ever meet, with the least map on which they do."""
    found = {}
    for rows, met in seams:
        for pair in met:
            found.setdefault(pair, rows)
    return found


def joined_classes(book, names, pairs):
    """Classes that are merged as long as a tie goes from one to another."""
    pairs = list(pairs)
    for name in names:
        for way in book.symmetries.get(name, ()):
            pairs += [((name, side), (name, (BROUGHT[way][2 * side + 1] - 1) // 2)) for side in range(4)]
    groups = [{(name, side)} for name in names for side in range(4)]
    for one, second in pairs:
        met = [group for group in groups if one in group or second in group]
        groups = [group for group in groups if group not in met] + [set().union(*met)]
    return tuple(sorted(tuple(sorted(group)) for group in groups))


def least_misfit(seams, signs):
    for rows, met in seams:
        if any(signs[one[0]][one[1]] != signs[second[0]][second[1]] for one, second in met):
            return rows
    return None


def signs_by_classes(told):
    """Signs that are the same in a class and in no two classes."""
    signs = {}
    for number, members in enumerate(told):
        for name, side in members:
            signs.setdefault(name, [None] * 4)[side] = f"sign {number}"
    return {name: tuple(four) for name, four in signs.items()}


class HeldAgainstAllMapsTest(unittest.TestCase):
    def check(self, book, ends, picker):
        seams = seams_of_all_maps(book, ends)
        found = first_maps(seams)
        names = sorted({name for name, way in pictures(book, ends=ends)})
        self.assertEqual(ties(book, ends=ends), tuple(sorted(found)))
        self.check_tie_maps(book, ends, found, names)
        told = classes(book, ends=ends)
        self.assertEqual(told, joined_classes(book, names, found))
        if names:
            self.check_misfits(book, ends, seams, signs_by_classes(told), picker)
        return len(found)

    def check_tie_maps(self, book, ends, found, names):
        for one, second in list(found)[-4:] + list(found)[:3]:
            self.assertEqual(tie_map(book, one, second, ends=ends), found[one, second])
            self.assertEqual(tie_map(book, second, one, ends=ends), found[one, second])
        sides = [(name, side) for name in names for side in range(4)]
        never = [pair for pair in itertools.product(sides, sides) if tuple(sorted(pair)) not in found]
        for one, second in never[:2]:
            self.assertIsNone(tie_map(book, one, second, ends=ends))

    def check_misfits(self, book, ends, seams, fitting, picker):
        self.assertIsNone(misfit(book, fitting, ends=ends))
        for _ in range(3):
            name = picker.pick(sorted(fitting))
            signs = with_sign(fitting, name, picker.below(4), picker.pick(["", "another"]))
            self.assertEqual(misfit(book, signs, ends=ends), least_misfit(seams, signs))
        signs = {name: tuple(picker.pick(["+", "-"]) for _ in range(4)) for name in fitting}
        self.assertEqual(misfit(book, signs, ends=ends), least_misfit(seams, signs))

    def test_made_books(self):
        picker, counts = Picker(101), set()
        for number, book in enumerate(small_books(14, 102)):
            for ends in ALL_ENDS:
                with self.subTest(number=number, ends=ends):
                    counts.add(self.check(book, ends, picker))
        self.assertGreater(len(counts), 6)

    def test_two_windows_that_are_neighbours(self):
        picker = Picker(103)
        for ends in ALL_ENDS:
            for number, book in enumerate(pair_books(2, 104, ends)):
                with self.subTest(number=number, ends=ends):
                    self.check(book, ends, picker)

    def test_wires(self):
        book, signs = wires()
        for ends in ALL_ENDS:
            self.check(book, ends, Picker(105))
            self.assertIsNone(misfit(book, signs, ends=ends))
            seams = seams_of_all_maps(book, ends)
            for name in sorted(signs):
                for side in range(4):
                    changed = with_sign(signs, name, side, "wire" if signs[name][side] == "" else "")
                    self.assertEqual(misfit(book, changed, ends=ends), least_misfit(seams, changed))


class TiesTest(unittest.TestCase):
    def test_left_and_right_above_and_below(self):
        book = Book(1, [], [("a", 0)])
        beside, above = (("a", 1), ("a", 3)), (("a", 0), ("a", 2))
        self.assertEqual(ties(book), (above, beside))
        self.assertEqual(tie_map(book, *beside), ((0, 0),))
        self.assertEqual(tie_map(book, *above), ((0,), (0,)))
        self.assertEqual(tie_map(book, *beside, ends=("wrap", "open")), ((0,),))
        self.assertEqual(tie_map(book, *above, ends=("wrap", "open")), ((0,), (0,)))
        self.assertEqual(tie_map(book, *beside, ends=("open", "wrap")), ((0, 0),))
        self.assertEqual(tie_map(book, *above, ends=("open", "wrap")), ((0,),))

    def test_sides_are_brought_by_the_way(self):
        for way in range(8):
            right, left = [side for place in (3, 7) for side in range(4) if BROUGHT[way][2 * side + 1] == place]
            top, bottom = [side for place in (1, 5) for side in range(4) if BROUGHT[way][2 * side + 1] == place]
            expected = sorted([tuple(sorted([("a", right), ("a", left)])), tuple(sorted([("a", top), ("a", bottom)]))])
            self.assertEqual(ties(Book(1, [], [("a", way)])), tuple(expected))

    def test_sides_are_taken_as_pictures_are_told(self):
        book = Book(1, [Rule(0, with_condition(7, ("beyond",)), ("a", 1))], [("b", 0)], symmetries={"a": (0, 1, 2, 3)})
        beside = [(one, second) for one, second in ties(book) if one[0] != second[0]]
        self.assertEqual(beside, [(("a", 1), ("b", 3))])

    def test_a_cell_with_itself(self):
        left = Rule(0, with_condition(7, ("beyond",)), ("a", 0))
        book = Book(2, [Rule(0, [()] * 3 + [("same",)] + [()] * 3 + [("same",)], ("s", 0)), left], [("b", 0), ("c", 0)])
        self.assertEqual(tie_map(book, ("s", 1), ("s", 3), ends=("wrap", "open")), ((0,),))
        self.assertEqual(tie_map(book, ("s", 1), ("s", 3)), ((0, 0, 0, 0),))
        turned = Book(1, [], [("a", 1)])
        self.assertEqual(ties(turned, ends=ROUND), ((("a", 0), ("a", 2)), (("a", 1), ("a", 3))))

    def test_two_cells_by_two_seams(self):
        book = Book(2, [], [("a", 0), ("b", 0)])
        told = ties(book, ends=("wrap", "open"))
        self.assertIn((("a", 1), ("b", 3)), told)
        self.assertIn((("a", 3), ("b", 1)), told)
        self.assertEqual(tie_map(book, ("a", 1), ("b", 3), ends=("wrap", "open")), ((0, 1),))
        self.assertEqual(tie_map(book, ("a", 3), ("b", 1), ends=("wrap", "open")), ((0, 1),))
        self.assertEqual(tie_map(book, ("a", 3), ("b", 1)), ((1, 0),))
        self.assertEqual(tie_map(book, ("a", 2), ("b", 0), ends=("open", "wrap")), ((0,), (1,)))
        self.assertEqual(tie_map(book, ("a", 0), ("b", 2), ends=("open", "wrap")), ((0,), (1,)))
        self.assertEqual(tie_map(book, ("a", 0), ("b", 2)), ((1,), (0,)))

    def test_missing_pictures_have_no_seam(self):
        self.assertEqual(ties(Book(2, [], [None, None])), ())
        self.assertEqual(classes(Book(2, [], [None, None])), ())
        self.assertIsNone(misfit(Book(2, [], [None, None]), {}))
        lonely = Rule(0, [(), ("beyond",), (), ("beyond",), (), ("beyond",), (), ("beyond",)], ("a", 0))
        self.assertEqual(ties(Book(1, [lonely], [None])), ())
        self.assertEqual(classes(Book(1, [lonely], [None])), tuple(((("a", side),) for side in range(4))))
        book = Book(2, [], [("a", 0), None])
        self.assertEqual(ties(book), ((("a", 0), ("a", 2)), (("a", 1), ("a", 3))))
        self.assertIsNone(misfit(book, {"a": ("x", "y", "x", "y")}, ends=ROUND))

    def test_tie_maps_of_sides_that_never_meet_and_of_names_that_are_never_drawn(self):
        book = Book(2, [Rule(0, ANYWHERE, ("a", 0)), Rule(0, ANYWHERE, ("hidden", 0))], [("last", 0), ("b", 0)],
                    symmetries={"another": (0, 2)})
        for one, second in ((("a", 0), ("a", 0)), (("a", 0), ("a", 1)), (("a", 1), ("a", 2)), (("hidden", 0), ("a", 2)),
                            (("last", 0), ("last", 2)), (("zz", 3), ("a", 1)), (("another", 0), ("another", 2)),
                            (("", 0), ("", 2)), (("a b~", 3), ("a", 1)), (("A", 1), ("A", 3)), (("a", 0), ("b", 0))):
            self.assertIsNone(tie_map(book, one, second))
            self.assertIsNone(tie_map(book, second, one))

    def test_answers_are_tuples_of_tuples(self):
        book, _ = wires()
        told = ties(book)
        self.assertIs(type(told), tuple)
        for one, second in told:
            self.assertEqual((type(one), type(second)), (tuple, tuple))
            self.assertLessEqual(one, second)
        self.assertIs(type(classes(book)), tuple)
        self.assertEqual({type(members) for members in classes(book)}, {tuple})


class ClassesTest(unittest.TestCase):
    def test_wires(self):
        book, signs = wires({"cross": (0, 1, 2, 3, 4, 5, 6, 7), "line": (0, 2, 4, 6), "end": (0, 4)})
        told = classes(book)
        self.assertEqual(len(told), 2)
        wired = {(name, side) for name in signs for side in range(4) if signs[name][side]}
        self.assertEqual({frozenset(members) for members in told},
                         {frozenset(wired), frozenset((name, side) for name in signs for side in range(4)) - wired})

    def test_by_symmetries(self):
        for symmetries, expected in (
                ((0,), ((0, 2), (1, 3))), ((0, 2), ((0, 2), (1, 3))), ((0, 1, 2, 3), ((0, 1, 2, 3),)),
                ((0, 5), ((0, 1, 2, 3),)), ((0, 4), ((0, 2), (1, 3)))):
            book = Book(1, [], [("a", 0)], symmetries={"a": symmetries})
            self.assertEqual(classes(book), tuple(tuple(("a", side) for side in members) for members in expected))
        lonely = Rule(0, [(), ("beyond",), (), ("beyond",), (), ("beyond",), (), ("beyond",)], ("a", 0))
        for symmetries, expected in (
                ((0, 4), ((0,), (1, 3), (2,))), ((0, 6), ((0, 2), (1,), (3,))), ((0, 2), ((0, 2), (1, 3))),
                ((0, 5), ((0, 1), (2, 3))), ((0, 7), ((0, 3), (1, 2))), ((0, 1, 2, 3), ((0, 1, 2, 3),))):
            told = classes(Book(1, [lonely], [None], symmetries={"a": symmetries}))
            by_numbers = tuple(tuple(side for name, side in members) for members in told)
            self.assertEqual(len(by_numbers), len(expected))
            self.assertEqual({frozenset(members) for members in by_numbers}, {frozenset(one) for one in expected})

    def test_only_names_that_are_drawn(self):
        book = Book(2, [Rule(None, with_condition(7, ("beyond",)), ("left", 0))], [("a", 0), ("a", 0)],
                    symmetries={"other": (0, 1, 2, 3)})
        self.assertEqual({name for members in classes(book) for name, side in members}, {"a", "left"})
        self.assertEqual({name for members in classes(book, ends=ROUND) for name, side in members}, {"a"})


class MisfitTest(unittest.TestCase):
    def test_more_names_than_the_book_draws_are_let(self):
        book, signs = wires()
        more = {**signs, "": ("a",) * 4, "zz": ("a", "b", "c", "d"), "A b": ("",) * 4}
        self.assertIsNone(misfit(book, more))
        self.assertEqual(misfit(book, with_sign(more, "dot", 1, "x")), misfit(book, with_sign(signs, "dot", 1, "x")))

    def test_by_hand(self):
        book = Book(2, [], [("a", 0), ("b", 0)])
        self.assertIsNone(misfit(book, {"a": ("x", "y") * 2, "b": ("x", "y") * 2}))
        self.assertEqual(misfit(book, {"a": ("x", "y", "x", "z"), "b": ("x", "y") * 2}), ((0, 0),))
        self.assertEqual(misfit(book, {"a": ("x", "y", "z", "y"), "b": ("x", "y") * 2}), ((0,), (0,)))
        self.assertEqual(misfit(book, {"a": ("x", "y", "x", "y"), "b": ("x", "z", "x", "z")}), ((0, 1),))
        self.assertEqual(misfit(book, {"a": ("x", "y", "x", "y"), "b": ("z", "y", "z", "y")}), ((0,), (1,)))
        self.assertEqual(misfit(book, {"a": ("x", "y", "x", "z"), "b": ("x", "y") * 2}, ends=("wrap", "open")), ((0,),))

    def test_first_name_that_is_not_there(self):
        book, signs = wires()
        for lacking in (["bend"], ["tee", "cross"], ["none", "tee", "line"], sorted(signs)):
            less = {name: four for name, four in signs.items() if name not in lacking}
            for ends in ALL_ENDS:
                expect_error(self, InvalidSigns, {"name": min(lacking)}, misfit, book, less, ends=ends)
            wrong = {**less, "zz": ("",) * 3}
            expect_error(self, InvalidSigns, {"name": "zz"}, misfit, book, wrong)
            expect_error(self, InvalidEnds, {"thing": None}, misfit, book, less, ends=None)

    def test_only_names_that_are_drawn_with_these_ends_are_wanted(self):
        book = Book(1, [Rule(0, with_condition(7, ("beyond",)), ("left", 0))], [("a", 0)])
        signs = {"a": ("x",) * 4}
        expect_error(self, InvalidSigns, {"name": "left"}, misfit, book, signs)
        expect_error(self, InvalidSigns, {"name": "left"}, misfit, book, signs, ends=("open", "wrap"))
        self.assertIsNone(misfit(book, signs, ends=("wrap", "open")))
        hidden = Book(1, [Rule(0, ANYWHERE, ("a", 0)), Rule(0, ANYWHERE, ("b", 0))], [("c", 0)])
        self.assertIsNone(misfit(hidden, signs))

    def test_signs_are_not_kept_and_not_changed(self):
        book, signs = wires()
        before = repr(signs)
        misfit(book, signs)
        self.assertEqual(repr(signs), before)
        wrong = with_sign(signs, "end", 0, "")
        first = misfit(book, wrong)
        wrong["end"] = signs["end"]
        self.assertIsNone(misfit(book, wrong))
        self.assertEqual(misfit(book, with_sign(signs, "end", 0, "")), first)


def is_side(thing):
    return (type(thing) is tuple and len(thing) == 2 and type(thing[0]) is str and type(thing[1]) is int
            and 0 <= thing[1] <= 3)


def bad_sides():
    return [thing for thing in things() if not is_side(thing)] + [
        ("a", 4), ("a", -1), ("a", 7), ("a", GREAT), ("a", True), ("a", False), ("a", None), ("a", "0"), ("a", (0,)),
        ["a", 0], ("a",), ("a", 0, 0), (0, "a"), (None, 0), (("a",), 0), (["a"], 0), "a0", {"a": 0}, (some_rule(), 0),
        (("a", 0),), [("a", 0)], ("a", [0]),
    ]


class ArgumentsTest(unittest.TestCase):
    def test_wrong_arguments(self):
        book = Wrong("book", some_book(), bad_books(), InvalidBook)
        ends = Wrong("ends", ("open", "wrap"), bad_ends(), InvalidEnds, only_named=True)
        expect_refusals(self, ties, [book, ends])
        expect_refusals(self, classes, [book, ends])
        expect_refusals(self, tie_map, [book, Wrong("one", ("a", 3), bad_sides(), InvalidSide),
                                        Wrong("second", ("zz", 0), bad_sides(), InvalidSide), ends])
        right = {"a": ("x",) * 4}
        expect_refusals(self, misfit, [book, Wrong("signs", right, bad_signs(), InvalidSigns, field="name"), ends])

    def test_right_things_at_the_edge_are_let(self):
        book = Book(1, [], [("a", 0)])
        for side in range(4):
            self.assertEqual(tie_map(book, ("a", side), ("a", (side + 2) % 4), ends=ROUND), ((0,),))
        self.assertIsNone(tie_map(book, ("a" * 300, 3), ("\n", 0)))
        self.assertIsNone(misfit(book, {"a": ("\n", "x" * 300) * 2, "": ("",) * 4, "?": ("~",) * 4}))

    def test_ends_not_passed_are_open(self):
        book, signs = wires()
        changed = with_sign(signs, "tee", 0, "")
        self.assertEqual(ties(book), ties(book, ends=OPEN))
        self.assertEqual(classes(book), classes(book, ends=OPEN))
        self.assertEqual(tie_map(book, ("end", 0), ("end", 0)), tie_map(book, ("end", 0), ("end", 0), ends=OPEN))
        self.assertEqual(misfit(book, changed), misfit(book, changed, ends=OPEN))
        edge = Book(1, [Rule(0, with_condition(7, ("beyond",)), ("left", 0))], [("a", 0)])
        self.assertEqual(ties(edge), ties(edge, ends=OPEN))
        self.assertNotEqual(ties(edge), ties(edge, ends=ROUND))

    def test_by_name(self):
        book, signs = wires()
        changed, ends = with_sign(signs, "tee", 0, ""), ("wrap", "open")
        self.assertEqual(ties(ends=ends, book=book), ties(book, ends=ends))
        self.assertEqual(classes(ends=ends, book=book), classes(book, ends=ends))
        self.assertEqual(tie_map(ends=ends, second=("end", 1), one=("none", 3), book=book),
                         tie_map(book, ("none", 3), ("end", 1), ends=ends))
        self.assertEqual(misfit(ends=ends, signs=changed, book=book), misfit(book, changed, ends=ends))

    def test_ends_only_by_name(self):
        book, signs = wires()
        self.assertRaises(TypeError, ties, book, OPEN)
        self.assertRaises(TypeError, classes, book, OPEN)
        self.assertRaises(TypeError, tie_map, book, ("a", 0), ("a", 2), OPEN)
        self.assertRaises(TypeError, misfit, book, signs, OPEN)

    def test_asked_again_and_in_another_order(self):
        book, signs = wires()
        changed = with_sign(signs, "tee", 0, "")
        first = (ties(book), classes(book), tie_map(book, ("end", 0), ("end", 0)), misfit(book, changed))
        again = (misfit(book, changed), tie_map(book, ("end", 0), ("end", 0)), classes(book), ties(book))
        self.assertEqual(again[::-1], first)


if __name__ == "__main__":
    unittest.main()
