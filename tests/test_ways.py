"""Promise [4]: ways, held against squares that are mirrored and turned here."""

import unittest

from cellpictures.errors import InvalidNumber, InvalidWay
from cellpictures.ways import behind, inverse, place_to, side_to
from tests.helping import Wrong, expect_refusals, things_outside, turned

# A number at each place, clockwise from top left; and at each side, clockwise from the top.
PLACES = ((0, 1, 2), (7, "middle", 3), (6, 5, 4))
SIDES = (("", 0, ""), (3, "middle", 1), ("", 2, ""))


def position(square, thing):
    return [(row, column) for row in range(3) for column in range(3) if square[row][column] == thing]


def number_after(square, way, number):
    """The number that stands, in the square as it was, where the way brings a number."""
    (row, column), = position(turned(square, way), number)
    return square[row][column]


class WaysTest(unittest.TestCase):
    def test_place_to_on_a_square(self):
        for way in range(8):
            for place in range(8):
                with self.subTest(way=way, place=place):
                    told = place_to(way, place)
                    self.assertEqual(told, number_after(PLACES, way, place))
                    self.assertIs(type(told), int)

    def test_place_to_as_it_is_written(self):
        for place in range(8):
            for way in range(4):
                self.assertEqual(place_to(way, place), (place + 2 * way) % 8)
                self.assertEqual(place_to(way + 4, place), (2 - place + 2 * (way + 4)) % 8)

    def test_side_to_on_a_square(self):
        for way in range(8):
            for side in range(4):
                with self.subTest(way=way, side=side):
                    told = side_to(way, side)
                    self.assertEqual(told, number_after(SIDES, way, side))
                    self.assertIs(type(told), int)

    def test_side_to_as_it_is_written(self):
        for side in range(4):
            for way in range(4):
                self.assertEqual(side_to(way, side), (side + way) % 4)
                self.assertEqual(side_to(way + 4, side), (way + 4 - side) % 4)

    def test_some_by_hand(self):
        self.assertEqual([place_to(0, 0), place_to(1, 0), place_to(4, 0), place_to(5, 0)], [0, 2, 2, 4])
        self.assertEqual([side_to(0, 1), side_to(1, 1), side_to(4, 1), side_to(5, 1)], [1, 2, 3, 0])
        self.assertEqual([behind(1, 4), behind(4, 1), behind(3, 3), behind(7, 6)], [5, 7, 2, 1])
        self.assertEqual([inverse(way) for way in range(8)], [0, 3, 2, 1, 4, 5, 6, 7])

    def test_behind_does_what_both_do(self):
        for first_way in range(8):
            for way in range(8):
                with self.subTest(way=way, first_way=first_way):
                    told = behind(way, first_way)
                    self.assertIs(type(told), int)
                    self.assertIn(told, range(8))
                    self.assertEqual(turned(PLACES, told), turned(turned(PLACES, first_way), way))

    def test_behind_on_places_and_sides(self):
        for first_way in range(8):
            for way in range(8):
                told = behind(way, first_way)
                for place in range(8):
                    self.assertEqual(place_to(told, place), place_to(way, place_to(first_way, place)))
                for side in range(4):
                    self.assertEqual(side_to(told, side), side_to(way, side_to(first_way, side)))

    def test_inverse_undoes(self):
        for way in range(8):
            with self.subTest(way=way):
                told = inverse(way)
                self.assertIs(type(told), int)
                self.assertEqual(turned(turned(PLACES, way), told), PLACES)
                self.assertEqual(turned(turned(PLACES, told), way), PLACES)
                self.assertEqual(behind(told, way), 0)
                self.assertEqual(behind(way, told), 0)

    def test_arguments_by_name_in_any_order(self):
        for way in range(8):
            self.assertEqual(inverse(way=way), inverse(way))
            for number in range(8):
                self.assertEqual(behind(way=way, first_way=number), behind(way, number))
                self.assertEqual(behind(first_way=number, way=way), behind(way, number))
                self.assertEqual(behind(way, first_way=number), behind(way, number))
                self.assertEqual(place_to(place=number, way=way), place_to(way, number))
                self.assertEqual(side_to(side=number % 4, way=way), side_to(way, number % 4))

    def test_wrong_ways(self):
        way = Wrong("way", 5, things_outside(0, 7), InvalidWay)
        first_way = Wrong("first_way", 6, things_outside(0, 7), InvalidWay)
        expect_refusals(self, behind, [way, first_way])
        expect_refusals(self, inverse, [way])

    def test_wrong_places(self):
        way = Wrong("way", 5, things_outside(0, 7), InvalidWay)
        expect_refusals(self, place_to, [way, Wrong("place", 7, things_outside(0, 7), InvalidNumber)])

    def test_wrong_sides(self):
        way = Wrong("way", 5, things_outside(0, 7), InvalidWay)
        expect_refusals(self, side_to, [way, Wrong("side", 3, things_outside(0, 3), InvalidNumber)])

    def test_the_same_call_again(self):
        for way in range(8):
            for number in range(8):
                self.assertEqual(behind(way, number), behind(way, number))
                self.assertEqual(place_to(way, number), place_to(way, number))


if __name__ == "__main__":
    unittest.main()
