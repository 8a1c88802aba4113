"""Promise [6]: rules, held against windows and turns that are made here."""

import itertools
import unittest

from cellpictures.books import Book
from cellpictures.drawing import chosen, draw
from cellpictures.errors import InvalidCondition, InvalidNumber, InvalidPicture, InvalidWay, InvalidWays
from cellpictures.rules import Rule
from tests.helping import (ALL_ENDS, BEHIND, BROUGHT, GREAT, Picker, Wrong, bad_pictures, cells, condition_holds,
                           expect_refusals, is_count, is_integer_within, some_book, some_rule, things, things_outside,
                           window_of)

ANYWHERE = ((),) * 8
PICTURE = ("a", 0)


def at_places(conditions):
    """Eight conditions, those of a dict at their places."""
    return [conditions.get(place, ()) for place in range(8)]


def small_maps(kinds):
    """All maps of a few small sizes."""
    for height, width in ((1, 1), (1, 2), (2, 1), (2, 2)):
        for line in itertools.product(range(kinds), repeat=height * width):
            yield tuple(line[row * width:row * width + width] for row in range(height))
    yield from (((0, 1, 0), (1, 0, 0), (1, 1, 0)), ((1, 1, 0), (0, 1, 0)), ((0,), (0,), (1,)), ((1, 0, 0, 0),))


def places_seen():
    """All cells of the small maps at all ends, with their windows."""
    for rows in small_maps(2):
        for ends in ALL_ENDS:
            for row, column in cells(rows):
                yield rows, row, column, ends, window_of(rows, row, column, ends)


def alone(rule, kinds=2):
    """A book of a rule that has no last pictures."""
    return Book(kinds, [rule], [None] * kinds)


def is_list(thing):
    return type(thing) in (list, tuple)


def is_condition(thing):
    if type(thing) is not tuple:
        return False
    return all(is_count(item) or type(item) is str and item in ("same", "other", "beyond") for item in thing)


def bad_conditions():
    return [thing for thing in things() if not is_condition(thing)] + [
        "same", "other", "beyond", ["same"], ["other", 0], [], {}, {"same": 0}, None, 0, True,
        ("Same",), ("same ",), ("",), ("any",), ("sameother",), ("s",), ("same", "x"), ("same", None), (None,),
        (-1,), (0, -1), (-GREAT,), (True,), (False,), (0, 1, True), ("same", False), (("same",),), ((),), ((0,),),
        (["same"],), ("same", []), ({},), ("beyond", {}), ("0",), (some_rule(),), ("other", InvalidWay(0)),
    ]


def bad_arounds():
    """No conditions, each with the place that is told of them."""
    right = [("same",), ("other", 0), (), (0, 1), ("beyond",), (), (1,), ()]
    no_lists = [thing for thing in things() if not is_list(thing) or len(thing) != 8]
    told = [(thing, None) for thing in no_lists]
    told += [(right[:7], None), (right + [()], None), ([], None), ((), None), ({k: () for k in range(8)}, None)]
    told += [("beyonded", None), (ANYWHERE[:7], None), (ANYWHERE + ((),), None), ([None] * 7, None)]
    for place in range(8):
        told += [(right[:place] + [thing] + right[place + 1:], place) for thing in bad_conditions()]
        told.append((tuple(right[:place]) + (["same"],) + tuple(right[place + 1:]), place))
        told.append((right[:place] + [["same"], None, 0, "same", (True,), [], {}, (None,)][:8 - place], place))
    return told


def are_ways(thing):
    if not is_list(thing) or not thing or not all(is_integer_within(item, 0, 7) for item in thing):
        return False
    return len({item for item in thing}) == len(thing)


def bad_ways():
    return [thing for thing in things() if not are_ways(thing)] + [
        [], (), [8], (8,), [-1], (0, 8), [0, 1, -1], (GREAT,), (0, 0), [3, 3], [0, 1, 2, 0], (7, 6, 7),
        list(range(8)) + [0], list(range(9)), [True], (False,), (0, True), (True, False), [1, 2, False], [None],
        (0, None), ["0"], ("0", "1"), "01", "0", [[0]], ([0],), ((0,),), [0, (1,)], {0: 1}, {}, 0, 7, None,
        [0, some_rule()], ([],), (0, {}),
    ]


class PropertiesTest(unittest.TestCase):
    def test_what_was_passed(self):
        around = [("same", 1), (), ("other", "beyond"), (0, 0, 2), ("same", "same"), (), ("beyond",), (GREAT,)]
        for middle in (None, 0, 1, 2, GREAT):
            for ways in ((0,), (7,), (3, 0, 5), tuple(range(8)), (7, 6, 5, 4, 3, 2, 1, 0)):
                for picture in (("a", 0), ("abcdefgh", 7), ("", 3), ("A b-1", 4)):
                    rule = Rule(middle, around, picture, ways=ways)
                    self.assertEqual((rule.middle, rule.around, rule.picture, rule.ways),
                                     (middle, tuple(around), picture, ways))
                    told = (rule.around, rule.picture, rule.ways)
                    self.assertEqual([type(thing) for thing in told], [tuple] * 3)

    def test_lists_and_tuples_are_taken_alike(self):
        around = [("same",), (1, "other"), (), (), (), (), (), ("beyond",)]
        one = Rule(0, around, PICTURE, ways=[2, 1])
        second = Rule(0, tuple(around), PICTURE, ways=(2, 1))
        self.assertEqual(one, second)
        self.assertEqual((type(one.around), type(one.ways)), (tuple, tuple))

    def test_ways_not_passed(self):
        self.assertEqual(Rule(None, ANYWHERE, PICTURE).ways, (0,))

    def test_by_name(self):
        around = at_places({2: ("same",)})
        rule = Rule(ways=(1, 0), picture=("b", 2), around=around, middle=1)
        self.assertEqual(rule, Rule(1, around, ("b", 2), ways=(1, 0)))
        self.assertEqual((rule.middle, rule.around, rule.picture, rule.ways), (1, tuple(around), ("b", 2), (1, 0)))

    def test_ways_only_by_name(self):
        self.assertRaises(TypeError, Rule, 0, ANYWHERE, PICTURE, (0,))

    def test_later_changes_have_no_effect(self):
        around, ways = at_places({0: ("same",)}), [0, 1]
        rule = Rule(0, around, PICTURE, ways=ways)
        around[1] = ("beyond",)
        around.append(())
        ways[0] = 7
        ways.clear()
        self.assertEqual((rule.around, rule.ways), (tuple(at_places({0: ("same",)})), (0, 1)))
        self.assertEqual(rule, Rule(0, at_places({0: ("same",)}), PICTURE, ways=(0, 1)))


class EqualTest(unittest.TestCase):
    def rules(self):
        one, second = at_places({0: (0, "same")}), at_places({0: ("same", 0)})
        return [
            Rule(0, one, ("a", 0)), Rule(1, one, ("a", 0)), Rule(None, one, ("a", 0)), Rule(0, second, ("a", 0)),
            Rule(0, ANYWHERE, ("a", 0)), Rule(0, at_places({1: (0, "same")}), ("a", 0)), Rule(0, one, ("a", 1)),
            Rule(0, one, ("b", 0)), Rule(0, one, ("a", 0), ways=(0, 1)), Rule(0, one, ("a", 0), ways=(1, 0)),
            Rule(0, one, ("a", 0), ways=(1,)), Rule(0, at_places({0: (0, "same", 0)}), ("a", 0)),
        ]

    def test_like_and_unlike_rules(self):
        for number, rule in enumerate(self.rules()):
            for second_number, second in enumerate(self.rules()):
                self.assertIs(rule == second, number == second_number)
                self.assertIs(rule != second, number != second_number)

    def test_a_rule_and_anything(self):
        rule = Rule(0, ANYWHERE, PICTURE, ways=(5,))
        whole = (rule.middle, rule.around, rule.picture, rule.ways)
        for thing in things() + [whole, list(whole), some_book(), alone(rule), [rule], (rule,)]:
            self.assertIs(rule == thing, False)
            self.assertIs(thing == rule, False)
            self.assertIs(rule != thing, True)


class FitTest(unittest.TestCase):
    def test_each_alternative_at_each_place_in_each_way(self):
        for name in ("same", "other", "beyond", 0, 1):
            for place in range(8):
                around = at_places({place: (name,)})
                books = [alone(Rule(None, around, PICTURE, ways=(way,))) for way in range(8)]
                for rows, row, column, ends, (middle, seen) in places_seen():
                    for way, book in enumerate(books):
                        expected = condition_holds((name,), middle, seen[BROUGHT[way][place]])
                        told = chosen(book, rows, row, column, ends=ends)
                        self.assertEqual(told, (0, way) if expected else None)

    def test_several_alternatives(self):
        for condition in (("same", "beyond"), (1, "beyond"), ("other", 0), ("beyond", "same", "other"), (0, 1),
                          ("same", "same"), ("beyond", "beyond", 1, 0, "other", "same")):
            for place in (0, 3, 6):
                book = alone(Rule(None, at_places({place: condition}), PICTURE))
                for rows, row, column, ends, (middle, seen) in places_seen():
                    expected = condition_holds(condition, middle, seen[place])
                    self.assertEqual(chosen(book, rows, row, column, ends=ends), (0, 0) if expected else None)

    def test_alternatives_by_hand(self):
        rows = ((0, 1, 2),)
        expected = {
            ("same",): [None, None, None], ("other",): [None, PICTURE, PICTURE], ("beyond",): [PICTURE, None, None],
            (0,): [None, PICTURE, None], (1,): [None, None, PICTURE], (2,): [None, None, None],
            (0, "beyond"): [PICTURE, PICTURE, None], (): [PICTURE, PICTURE, PICTURE],
        }
        for condition, pictures in expected.items():
            book = alone(Rule(None, at_places({7: condition}), PICTURE), 3)
            self.assertEqual(draw(book, rows), (tuple(pictures),))

    def test_alternatives_by_hand_where_it_wraps(self):
        rows = ((0, 1, 2),)
        expected = {
            ("same",): [None, None, None], ("other",): [PICTURE, PICTURE, PICTURE], ("beyond",): [None, None, None],
            (0,): [None, PICTURE, None], (2,): [PICTURE, None, None], (): [PICTURE, PICTURE, PICTURE],
        }
        for condition, pictures in expected.items():
            book = alone(Rule(None, at_places({7: condition}), PICTURE), 3)
            self.assertEqual(draw(book, rows, ends=("wrap", "open")), (tuple(pictures),))
        itself = alone(Rule(None, at_places({1: ("same",), 5: ("same",)}), PICTURE), 3)
        self.assertEqual(draw(itself, rows, ends=("open", "wrap")), ((PICTURE, PICTURE, PICTURE),))

    def test_nothing_is_no_other_kind(self):
        for name in ("same", "other", 0):
            book = alone(Rule(None, at_places({1: (name,)}), PICTURE))
            self.assertEqual(draw(book, ((0,),)), ((None,),))

    def test_conditions_at_all_places_must_hold(self):
        rows = ((0, 0, 0), (0, 1, 0), (0, 0, 0))
        self.assertEqual(chosen(alone(Rule(1, [(0,)] * 8, PICTURE)), rows, 1, 1), (0, 0))
        for place in range(8):
            around = [(1,) if place == number else (0,) for number in range(8)]
            self.assertIsNone(chosen(alone(Rule(1, around, PICTURE)), rows, 1, 1))

    def test_middle(self):
        rows = ((0, 1, 2), (2, 1, 0))
        for middle in (None, 0, 1, 2):
            book = alone(Rule(middle, ANYWHERE, PICTURE), 3)
            expected = [[PICTURE if middle in (None, kind) else None for kind in row] for row in rows]
            self.assertEqual(draw(book, rows), tuple(tuple(line) for line in expected))

    def test_same_and_other_hang_on_the_middle_of_the_window(self):
        book = alone(Rule(None, at_places({3: ("same",)}), PICTURE), 3)
        self.assertEqual(draw(book, ((2, 2, 1, 1, 0),)), ((PICTURE, None, PICTURE, None, None),))
        book = alone(Rule(None, at_places({3: ("other",)}), PICTURE), 3)
        self.assertEqual(draw(book, ((2, 2, 1, 1, 0),)), ((None, PICTURE, None, PICTURE, None),))

    def test_the_first_way_in_the_order_of_the_rule(self):
        rows = ((0, 1), (1, 1))
        around = at_places({1: ("beyond",)})
        upwards = alone(Rule(None, around, PICTURE, ways=(0, 1, 2, 3)))
        self.assertEqual(draw(upwards, rows), ((("a", 0), ("a", 0)), (("a", 2), ("a", 1))))
        downwards = alone(Rule(None, around, PICTURE, ways=(3, 2, 1, 0)))
        self.assertEqual(draw(downwards, rows), ((("a", 3), ("a", 1)), (("a", 3), ("a", 2))))
        mixed = alone(Rule(None, around, PICTURE, ways=(2, 5)))
        self.assertEqual(draw(mixed, rows), ((None, ("a", 5)), (("a", 2), ("a", 2))))

    def test_all_ways_hold_where_nothing_is_asked(self):
        for ways in ((0,), (7, 0), (3, 1, 2), (5, 4), tuple(range(7, -1, -1))):
            book = alone(Rule(None, ANYWHERE, PICTURE, ways=ways))
            self.assertEqual(chosen(book, ((1,),), 0, 0), (0, ways[0]))

    def test_a_corner_in_all_ways(self):
        # Places 1 and 2 and the ways that bring them to two others, by hand.
        brought = {(1, 2): 0, (3, 4): 1, (5, 6): 2, (7, 0): 3, (1, 0): 4, (3, 2): 5, (5, 4): 6, (7, 6): 7}
        book = alone(Rule(0, at_places({1: (1,), 2: (1,)}), PICTURE, ways=tuple(range(8))))
        cell = ((0, 0), (0, 1), (0, 2), (1, 2), (2, 2), (2, 1), (2, 0), (1, 0))
        for places, way in brought.items():
            seen = [cell[place] for place in places]
            rows = tuple(tuple(int((row, column) in seen) for column in range(3)) for row in range(3))
            self.assertEqual(chosen(book, rows, 1, 1), (0, way))
            self.assertEqual(draw(book, rows)[1][1], ("a", way))


class DrawnTest(unittest.TestCase):
    def test_the_picture_is_brought_further_by_the_way(self):
        for own_way in range(8):
            for way in range(8):
                book = alone(Rule(None, ANYWHERE, ("b", own_way), ways=(way, (way + 3) % 8)))
                self.assertEqual(draw(book, ((0,),)), ((("b", BEHIND[way][own_way]),),))

    def test_by_hand(self):
        for own_way, way, expected in ((0, 3, 3), (4, 1, 5), (1, 4, 7), (5, 5, 0), (2, 3, 1), (6, 1, 7)):
            book = alone(Rule(None, ANYWHERE, ("b", own_way), ways=(way,)))
            self.assertEqual(draw(book, ((0,),)), ((("b", expected),),))


class TurnedTest(unittest.TestCase):
    def test_all_ways(self):
        picker = Picker(31)
        for _ in range(40):
            rule = picker.rule(3)
            for way in range(8):
                told = rule.turned(way)
                self.assertIs(type(told), Rule)
                self.assertEqual((told.middle, told.around, told.picture), (rule.middle, rule.around, rule.picture))
                self.assertEqual(told.ways, tuple(BEHIND[way][own_way] for own_way in rule.ways))
                self.assertEqual(rule.turned(way=way), told)

    def test_by_hand(self):
        rule = Rule(0, at_places({1: ("same",)}), ("a", 2), ways=(0, 5, 3))
        self.assertEqual(rule.turned(1).ways, (1, 6, 0))
        self.assertEqual(rule.turned(4).ways, (4, 3, 5))
        self.assertEqual(rule.ways, (0, 5, 3))

    def test_turned_twice_and_back(self):
        rule = Picker(32).rule(2)
        for way in range(8):
            for second in range(8):
                self.assertEqual(rule.turned(way).turned(second), rule.turned(BEHIND[second][way]))
        self.assertEqual(rule.turned(0), rule)

    def test_wrong_ways(self):
        expect_refusals(self, some_rule().turned, [Wrong("way", 3, things_outside(0, 7), InvalidWay)])


class WrongArgumentsTest(unittest.TestCase):
    def test_wrong_arguments(self):
        middles = [thing for thing in things() if thing is not None and not is_count(thing)]
        right = [("same",), (0, GREAT), (), ("other", "beyond"), (), (), (), ()]
        expect_refusals(self, Rule, [
            Wrong("middle", 0, middles, InvalidNumber),
            Wrong("around", right, bad_arounds(), InvalidCondition, field="place"),
            Wrong("picture", ("a", 7), bad_pictures(), InvalidPicture),
            Wrong("ways", [7, 0], bad_ways(), InvalidWays, only_named=True),
        ])

    def test_the_edges_are_let(self):
        for middle in (None, 0, 1, GREAT):
            Rule(middle, [("same", "other", "beyond", 0, GREAT, 1)] * 8, ("a", 7), ways=tuple(range(8)))
        for way in range(8):
            Rule(None, ANYWHERE, ("a\nb ~", way), ways=[way])


if __name__ == "__main__":
    unittest.main()
