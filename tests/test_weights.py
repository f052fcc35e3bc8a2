"""Points 11, 12 and 13."""

import unittest
from fractions import Fraction
from math import gcd

from keel.weights import middle, rows_of, weights

STACKS = [
    ("fore", -8, 1, 2, 3, 9, 500),
    ("mid", 4, 0, -7, 5, 9, 500),
    ("aft", 9, -6, 11, 1, 9, 500),
]
TANKS = [
    ("port", 2, -4, 1, 30),
    ("star", -3, 5, -6, 40),
    ("peak", 12, 0, 7, 20),
]
CARGO = [
    [("one", 5, "rome", "acid", 9), ("two", 4, "oslo", "food", 3), ("three", 2, "oslo", "food", 3)],
    [],
    [("four", 6, "bern", "acid", 2)],
]


def ship_of(own=(100, 5, -3, 3), bounds=(-10, 13, -2, 6, 9, 1000), stacks=STACKS, tanks=TANKS):
    return (own, bounds, list(stacks), list(tanks), [])


def plain(value):
    return (value.numerator, value.denominator)


class Weights(unittest.TestCase):
    def assert_weights(self, ship, cargo, wanted):
        before = repr((ship, cargo))
        told = weights(ship, cargo)
        self.assertIs(type(told), tuple)
        self.assertEqual([type(number) for number in told], [int] * 4)
        self.assertEqual(told, wanted)
        self.assertEqual(repr((ship, cargo)), before)

    def test_empty_ship(self):
        self.assert_weights(ship_of(), [[], [], []], (100, 500, -300, 300))
        self.assert_weights(ship_of(stacks=[], tanks=[]), [], (100, 500, -300, 300))
        self.assert_weights(ship_of(own=(1, 0, 0, 0)), [[], [], []], (1, 0, 0, 0))
        self.assert_weights(ship_of(own=(7, -2, -3, -4)), [[], [], []], (7, -14, -21, -28))

    def test_one_box(self):
        box = ("one", 5, "rome", "acid", 9)
        own = (1, 0, 0, 0)
        self.assert_weights(ship_of(own), [[box], [], []], (6, -40, 5, 10))
        self.assert_weights(ship_of(own), [[], [box], []], (6, 20, 0, -35))
        self.assert_weights(ship_of(own), [[], [], [box]], (6, 45, -30, 55))

    def test_boxes_at_several_heights(self):
        own = (1, 0, 0, 0)
        boxes = [("b" + letter, 10 ** number, "rome", "acid", 9) for number, letter in enumerate("abcd")]
        self.assert_weights(ship_of(own), [boxes, [], []], (1112, -8888, 1111, 2 + 50 + 800 + 11000))
        self.assert_weights(ship_of(own), [[], boxes, []], (1112, 4444, 0, -7 - 20 + 300 + 8000))
        self.assert_weights(ship_of(own), [[], [], boxes], (1112, 9999, -6666, 11 + 120 + 1300 + 14000))

    def test_own_and_all_stacks(self):
        self.assert_weights(ship_of(), CARGO, (
            117,
            500 - 8 * 11 + 9 * 6,
            -300 + 1 * 11 - 6 * 6,
            300 + 5 * 2 + 4 * 5 + 2 * 8 + 6 * 11,
        ))

    def test_water_and_bears_weigh_nothing(self):
        self.assertEqual(weights(ship_of(), CARGO), weights(ship_of(tanks=[]), CARGO))
        others = [[box[:4] + (77,) for box in boxes] for boxes in CARGO]
        self.assertEqual(weights(ship_of(), CARGO), weights(ship_of(), others))

    def test_great_numbers(self):
        top = 10 ** 9
        ship = ship_of((top, -top, top, -top), stacks=[("a", -top, top, top, top, top, top)])
        boxes = [(letter, top, "rome", "acid", 0) for letter in "abc"]
        self.assert_weights(ship, [boxes], (4 * top, -4 * top ** 2, 4 * top ** 2, 5 * top ** 2))


class Rows(unittest.TestCase):
    def assert_rows(self, ship, cargo, wanted):
        before = repr((ship, cargo))
        told = rows_of(ship, cargo)
        self.assertIs(type(told), list)
        self.assertEqual([type(row) for row in told], [tuple] * 6)
        self.assertEqual([type(row) for row, _ in told], [list] * 6)
        self.assertEqual(told, wanted)
        self.assertEqual(repr((ship, cargo)), before)

    def test_no_tank(self):
        self.assert_rows(ship_of(tanks=[]), [[], [], []], [
            ([], 13 * 100 - 500),
            ([], 500 + 10 * 100),
            ([], 6 * 100 + 300),
            ([], -300 + 2 * 100),
            ([], 9 * 100 - 300),
            ([], 1000 - 100),
        ])

    def test_one_tank(self):
        self.assert_rows(ship_of(tanks=TANKS[:1]), [[], [], []], [
            ([2 - 13], 800),
            ([-10 - 2], 1500),
            ([-4 - 6], 900),
            ([-2 + 4], -100),
            ([1 - 9], 600),
            ([1], 900),
        ])

    def test_several_tanks_and_boxes(self):
        self.assert_rows(ship_of(), CARGO, [
            ([-11, -16, -1], 13 * 117 - 466),
            ([-12, -7, -22], 466 + 10 * 117),
            ([-10, -1, -6], 6 * 117 + 325),
            ([2, -7, -2], -325 + 2 * 117),
            ([-8, -15, -2], 9 * 117 - 412),
            ([1, 1, 1], 1000 - 117),
        ])

    def test_bounds_of_other_signs(self):
        ship = ship_of((10, 1, 2, -3), (3, 5, -9, -8, -1, 7))
        self.assert_rows(ship, [[], [], []], [
            ([-3, -8, 7], 50 - 10),
            ([1, 6, -9], 10 - 30),
            ([4, 13, 8], -80 - 20),
            ([-5, -14, -9], 20 + 90),
            ([2, -5, 8], -10 + 30),
            ([1, 1, 1], -3),
        ])

    def test_great_numbers(self):
        top = 10 ** 9
        ship = ship_of((top, -top, top, 0), (-top, top, -top, top, top, 1), [], [("a", -top, top, -top, top)])
        self.assert_rows(ship, [], [
            ([-2 * top], 2 * top ** 2),
            ([0], 0),
            ([0], 0),
            ([-2 * top], 2 * top ** 2),
            ([-2 * top], top ** 2),
            ([1], 1 - top),
        ])

    def test_rows_are_met_just_where_the_middle_lies_within(self):
        ship = ship_of((10, 3, 1, 2), (1, 2, -1, 1, 1, 30), [], [("a", -2, 4, -3, 20), ("b", 1, -5, 2, 20)])
        met, missed = 0, 0
        for one in range(0, 21):
            for other in range(0, 21):
                all_weight = 10 + one + other
                along, across, above = (
                    Fraction(10 * own + one * first + other * second, all_weight)
                    for own, first, second in [(3, -2, 1), (1, 4, -5), (2, -3, 2)]
                )
                lies = [along <= 2, along >= 1, across <= 1, across >= -1, above <= 1, all_weight <= 30]
                meets = [row[0] * one + row[1] * other <= top for row, top in rows_of(ship, [])]
                self.assertEqual(meets, lies)
                met, missed = met + all(lies), missed + (not all(lies))
        self.assertGreater(min(met, missed), 10)

    def test_told_is_the_askers_own(self):
        ship = ship_of()
        wanted = repr(rows_of(ship, CARGO))
        told = rows_of(ship, CARGO)
        for row, _ in told:
            row.append(5)
        told.clear()
        self.assertEqual(repr(rows_of(ship, CARGO)), wanted)
        told = rows_of(ship, CARGO)
        ship[3].clear()
        self.assertEqual(repr(told), wanted)

    def test_no_list_is_told_twice(self):
        told = rows_of(ship_of(), CARGO)
        self.assertEqual(len({id(row) for row, _ in told}), 6)


class Middle(unittest.TestCase):
    def assert_middle(self, ship, cargo, fills, wanted):
        before = repr((ship, cargo, fills))
        told = middle(ship, cargo, fills)
        self.assertIs(type(told), tuple)
        self.assertEqual(len(told), 3)
        for one in told:
            self.assertIs(type(one), tuple)
            self.assertEqual([type(part) for part in one], [int, int])
            self.assertGreaterEqual(one[1], 1)
            self.assertEqual(gcd(one[0], one[1]), 1)
        self.assertEqual(told, wanted)
        self.assertEqual(repr((ship, cargo, fills)), before)

    def test_no_tanks(self):
        self.assert_middle(ship_of(tanks=[]), [[], [], []], [], ((5, 1), (-3, 1), (3, 1)))

    def test_no_water(self):
        dry = [(0, 1)] * 3
        self.assert_middle(ship_of(), [[], [], []], dry, ((5, 1), (-3, 1), (3, 1)))
        self.assert_middle(ship_of((7, 0, 0, 0)), [[], [], []], dry, ((0, 1), (0, 1), (0, 1)))
        wanted = (plain(Fraction(466, 117)), plain(Fraction(-325, 117)), plain(Fraction(412, 117)))
        self.assert_middle(ship_of(), CARGO, dry, wanted)
        self.assertEqual(wanted[1], (-25, 9))

    def test_one_tank_alone(self):
        own = (10, 0, 0, 0)
        dry = (0, 1)
        self.assert_middle(ship_of(own), [[], [], []], [(10, 1), dry, dry], ((1, 1), (-2, 1), (1, 2)))
        self.assert_middle(ship_of(own), [[], [], []], [dry, (10, 1), dry], ((-3, 2), (5, 2), (-3, 1)))
        self.assert_middle(ship_of(own), [[], [], []], [dry, dry, (20, 1)], ((8, 1), (0, 1), (14, 3)))

    def test_water_in_some_tanks(self):
        self.assert_middle(ship_of(), [[], [], []], [(20, 1), (0, 1), (5, 1)], (
            plain(Fraction(500 + 40 + 60, 125)),
            plain(Fraction(-300 - 80, 125)),
            plain(Fraction(300 + 20 + 35, 125)),
        ))

    def test_fills_that_are_no_whole_numbers(self):
        fills = [(1, 3), (7, 2), (22, 7)]
        one, two, three = (Fraction(*fill) for fill in fills)
        all_weight = 117 + one + two + three
        self.assert_middle(ship_of(), CARGO, fills, (
            plain((466 + 2 * one - 3 * two + 12 * three) / all_weight),
            plain((-325 - 4 * one + 5 * two) / all_weight),
            plain((412 + one - 6 * two + 7 * three) / all_weight),
        ))

    def test_lowest_terms(self):
        ship = ship_of((1, 1, -1, 0), tanks=[("a", 0, 0, 3, 9)])
        self.assert_middle(ship, [[], [], []], [(1, 2)], ((2, 3), (-2, 3), (1, 1)))
        self.assert_middle(ship, [[], [], []], [(1, 1)], ((1, 2), (-1, 2), (3, 2)))

    def test_very_small_and_great_fills(self):
        ship = ship_of((1, 1, 0, 0), tanks=[("a", 0, 0, 1, 9)])
        great = 10 ** 40
        self.assert_middle(ship, [[], [], []], [(1, great)], ((great, great + 1), (0, 1), (1, great + 1)))
        self.assert_middle(ship, [[], [], []], [(great, 1)], ((1, great + 1), (0, 1), (great, great + 1)))


if __name__ == "__main__":
    unittest.main()
