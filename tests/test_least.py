"""Point 19: least, by what 16, 17 and 18 ask of it."""

import copy
import faulthandler
import itertools
import unittest
from fractions import Fraction
from math import gcd

from keel.checks import mix_shows, prices_show, right_fills
from keel.least import least

GREAT = 10 ** 22

# Rows and rooms in which a way from corner to corner goes round without end, where at each corner it is chosen by
# the place in the table, by the last unknown at one end and the first at the other, or by what is passed by most.
GOING_ROUND = [
    ([([-1, -1, -1, -1], -4), ([2, -2, -1, 0], 0), ([-1, 2, 0, -1], -1), ([2, -1, 2, -1], 1), ([2, 1, -1, 1], 1),
      ([-2, 0, 1, 2], 1)], [9, 9, 9, 9]),
    ([([-1, -1, -1, -1], -4), ([-3, -1, -1, -3], -1), ([0, 3, 1, -1], 2), ([2, 1, 3, 0], 0), ([-1, 2, 3, -1], -1),
      ([-2, 2, 0, 1], -2), ([-3, -2, 1, 1], -2), ([3, 2, -1, 3], -1)], [4, 4, 4, 4]),
    ([([-1, -1, -1, -1], -4), ([3, -3, 0, 4], 0), ([2, -1, -3, 2], -1), ([2, -5, -1, -2], 1)], [7, 7, 7, 7]),
    ([([-1, -1, -1, -1], -3), ([1, -5, 2, 4], 2), ([-5, 3, 3, 4], -2), ([2, 4, 3, -5], 1), ([1, -3, 5, 2], -2),
      ([3, 4, 0, 5], -1), ([4, 3, 4, -3], 2), ([2, -2, -3, -2], -1)], [2, 2, 2, 2]),
    ([([-1, -1, -1, -1], -5), ([3, 2, 3, -5], 1), ([-4, -4, -2, -2], -1), ([1, 3, -2, 0], 2), ([-3, -1, 5, 2], 0),
      ([2, -5, -2, 1], -2)], [9, 9, 9, 9]),
    ([([-1, -1, -1, -1], -5), ([1, 2, 1, -1], 1), ([-2, -1, 1, 2], 2), ([2, -2, -1, 1], 1), ([2, -1, -1, -1], -1),
      ([1, 2, 0, -2], 0)], [8, 8, 8, 8]),
    ([([-1, -1, -1, -1], -4), ([5, -2, -3, -4], 0), ([-1, 2, 2, 0], 0), ([2, 2, -2, 2], 0), ([-1, -2, -1, 4], 1),
      ([-1, -3, -3, -2], 2)], [7, 7, 7, 7]),
    ([([-1, -1, -1, -1], -4), ([3, -2, -5, 0], -1), ([0, 1, 0, 3], 0), ([-1, 4, -3, 1], 0), ([-2, -4, -4, -4], -2),
      ([0, 3, 4, -2], 2), ([4, 5, 4, -2], 1), ([3, -2, 1, 4], 2)], [4, 4, 4, 4]),
    ([([-1, -1, -1], -4), ([-1, 3, 0], 1), ([-1, -4, 5], 0), ([4, 1, -2], 0)], [3, 3, 3]),
    ([([-1, -1, -1, -1], -4), ([-4, -1, -4, 4], 1), ([2, -5, 1, -4], -1), ([3, -4, 4, -2], 2), ([2, 5, -3, -5], -1),
      ([-3, -2, -2, -2], 0)], [1, 1, 1, 1]),
    ([([-1, -1, -1, -1], -3), ([-2, 2, 3, -2], -1), ([1, -2, 1, 2], 1), ([-1, 3, -1, 1], 1), ([-1, 0, -1, 0], 2),
      ([-3, 2, -3, -3], 2)], [4, 4, 4, 4]),
    ([([-1, -1, -1, -1], -2), ([4, 4, -5, 0], 0), ([3, 4, -4, -2], -1), ([-2, -3, -3, 4], 2), ([4, 3, -2, -2], 2),
      ([3, -4, -2, -4], 1), ([-5, -3, 2, 5], 1), ([3, 1, 3, 5], 2)], [3, 3, 3, 3]),
]


def setUpModule():
    # An answer that never comes is to fail here, not to be waited for.
    faulthandler.dump_traceback_later(300, exit=True, file=2)


def tearDownModule():
    faulthandler.cancel_dump_traceback_later()


class Drawn:
    """Numbers by a rule that is always the same."""

    def __init__(self, state):
        self.state = state

    def number(self, low, high):
        drawn = 0
        for _ in range(4):
            self.state = (self.state * 6364136223846793005 + 1442695040888963407) % 2 ** 64
            drawn = drawn * 2 ** 32 + (self.state >> 32)
        return low + drawn % (high - low + 1)

    def numbers(self, count, low, high):
        return [self.number(low, high) for _ in range(count)]


class LeastCase(unittest.TestCase):
    def assert_fractions(self, told, count):
        self.assertIs(type(told), list)
        self.assertEqual(len(told), count)
        for one in told:
            self.assertIs(type(one), tuple)
            self.assertEqual([type(part) for part in one], [int, int])
            self.assertGreaterEqual(one[1], 1)
            self.assertEqual(gcd(one[0], one[1]), 1)

    def assert_parts(self, told, rows, rooms):
        self.assertIs(type(told), tuple)
        self.assertEqual(len(told), 2)
        self.assert_fractions(told[0], len(rows))
        self.assert_fractions(told[1], len(rooms))

    def assert_fill(self, rows, rooms, told):
        self.assertEqual(len(told), 3)
        _, fills, prices = told
        self.assert_fractions(fills, len(rooms))
        self.assert_parts(prices, rows, rooms)
        self.assertIs(right_fills(rows, rooms, fills), True)
        self.assertIs(prices_show(rows, rooms, fills, prices), True)
        # The same by Python's own fractions.
        amounts = [Fraction(*fill) for fill in fills]
        ofrows, ofrooms = [[Fraction(*part) for part in side] for side in prices]
        self.assertTrue(all(0 <= amount <= room for amount, room in zip(amounts, rooms)))
        self.assertTrue(all(sum(a * b for a, b in zip(row, amounts)) <= top for row, top in rows))
        self.assertTrue(all(part >= 0 for part in ofrows + ofrooms))
        for tank in range(len(rooms)):
            self.assertGreaterEqual(1 + sum(row[tank] * p for (row, _), p in zip(rows, ofrows)) + ofrooms[tank], 0)
        worth = sum(top * p for (_, top), p in zip(rows, ofrows)) + sum(r * p for r, p in zip(rooms, ofrooms))
        self.assertEqual(sum(amounts) + worth, 0)

    def assert_none(self, rows, rooms, told):
        self.assertEqual(len(told), 2)
        self.assert_parts(told[1], rows, rooms)
        self.assertIs(mix_shows(rows, rooms, told[1]), True)
        ofrows, ofrooms = [[Fraction(*part) for part in side] for side in told[1]]
        self.assertTrue(all(part >= 0 for part in ofrows + ofrooms))
        for tank in range(len(rooms)):
            self.assertGreaterEqual(sum(row[tank] * p for (row, _), p in zip(rows, ofrows)) + ofrooms[tank], 0)
        worth = sum(top * p for (_, top), p in zip(rows, ofrows)) + sum(r * p for r, p in zip(rooms, ofrooms))
        self.assertLess(worth, 0)

    def told_of(self, rows, rooms):
        """What is told, which is seen to hold."""
        before = repr((rows, rooms))
        told = least(rows, rooms)
        self.assertEqual(repr((rows, rooms)), before)
        self.assertIs(type(told), tuple)
        self.assertIn(told[0], ("fill", "none"))
        if told[0] == "fill":
            self.assert_fill(rows, rooms, told)
        else:
            self.assert_none(rows, rooms, told)
        return told

    def assert_sum(self, rows, rooms, wanted):
        told = self.told_of(rows, rooms)
        self.assertEqual(told[0], "fill")
        self.assertEqual(sum(Fraction(*fill) for fill in told[1]), wanted)

    def assert_fills(self, rows, rooms, wanted):
        told = self.told_of(rows, rooms)
        self.assertEqual(told[0], "fill")
        self.assertEqual(told[1], wanted)

    def assert_there_are_none(self, rows, rooms):
        self.assertEqual(self.told_of(rows, rooms)[0], "none")


class FewRows(LeastCase):
    def test_no_rows(self):
        for rooms in [[], [0], [5], [0, 3], [1, 2, 3], [4, 0, 4, 9], [GREAT] * 4]:
            self.assert_fills([], rooms, [(0, 1)] * len(rooms))

    def test_no_rooms(self):
        self.assert_fills([], [], [])
        self.assert_fills([([], 0)], [], [])
        self.assert_fills([([], 5), ([], 0), ([], GREAT)], [], [])
        self.assert_there_are_none([([], -1)], [])
        self.assert_there_are_none([([], 5), ([], -1), ([], 3)], [])
        self.assert_there_are_none([([], -GREAT)] * 8, [])

    def test_rows_of_nought(self):
        for count in range(1, 5):
            row, rooms = [0] * count, [7] * count
            self.assert_fills([(row, 0)], rooms, [(0, 1)] * count)
            self.assert_fills([(row, 1)], rooms, [(0, 1)] * count)
            self.assert_there_are_none([(row, -1)], rooms)
            self.assert_there_are_none([([-1] * count, -2), (row, -1)], rooms)
            self.assert_sum([(row, 0), ([-1] * count, -2), (row, 1)], rooms, 2)

    def test_room_of_nought(self):
        self.assert_fills([([-1], 0)], [0], [(0, 1)])
        self.assert_there_are_none([([-1], -1)], [0])
        self.assert_fills([([-1, -1], -3)], [0, 9], [(0, 1), (3, 1)])
        self.assert_fills([([-5, -1], -3)], [0, 9], [(0, 1), (3, 1)])
        self.assert_there_are_none([([-5, -1], -3)], [0, 2])
        self.assert_there_are_none([([-1, -1, -1], -1)], [0, 0, 0])

    def test_nothing_is_filled_where_nothing_is_asked(self):
        self.assert_fills([([1, 1], 0), ([-1, 2], 0)], [4, 4], [(0, 1), (0, 1)])
        self.assert_fills([([-1, -1], 0)], [4, 4], [(0, 1), (0, 1)])

    def test_at_least(self):
        for wanted in range(1, 9):
            self.assert_fills([([-1], -wanted)], [8], [(wanted, 1)])
        self.assert_there_are_none([([-1], -9)], [8])

    def test_the_better_tank_first(self):
        self.assert_fills([([-2, -1], -6)], [8, 8], [(3, 1), (0, 1)])
        self.assert_fills([([-1, -2], -6)], [8, 8], [(0, 1), (3, 1)])
        self.assert_fills([([-2, -1], -6)], [2, 8], [(2, 1), (2, 1)])
        self.assert_fills([([-2, -1], -6)], [2, 2], [(2, 1), (2, 1)])
        self.assert_there_are_none([([-2, -1], -7)], [2, 2])

    def test_fills_that_are_no_whole_numbers(self):
        self.assert_fills([([-3], -7)], [5], [(7, 3)])
        self.assert_fills([([-6], -4)], [5], [(2, 3)])
        self.assert_fills([([-2, 1], -1), ([1, -3], -1)], [5, 5], [(4, 5), (3, 5)])
        self.assert_fills([([-GREAT], -1)], [5], [(1, GREAT)])

    def test_another_row_stands_in_the_way(self):
        self.assert_fills([([-2, -1], -6), ([1, 0], 1)], [8, 8], [(1, 1), (4, 1)])
        self.assert_fills([([-2, -1], -6), ([1, -1], 0)], [8, 8], [(2, 1), (2, 1)])
        self.assert_there_are_none([([-2, -1], -6), ([1, 1], 2)], [8, 8])
        self.assert_sum([([-2, -1], -6), ([1, 1], 3)], [8, 8], 3)

    def test_rows_that_say_the_same_twice(self):
        self.assert_fills([([-3], -7)] * 8, [5], [(7, 3)])
        self.assert_fills([([-2, -1], -6), ([-4, -2], -12), ([-2, -1], -6)], [2, 8], [(2, 1), (2, 1)])
        self.assert_there_are_none([([-1, -1], -9)] * 8, [4, 4])
        self.assert_sum([([-1, -1, -1], -5), ([-2, -2, -2], -10), ([1, 1, 1], 5)], [4, 4, 4], 5)

    def test_met_at_one_point_alone(self):
        self.assert_fills([([1], 3), ([-1], -3)], [5], [(3, 1)])
        self.assert_fills([([2], 3), ([-2], -3)], [5], [(3, 2)])
        self.assert_fills([([1, 0], 2), ([-1, 0], -2), ([0, 3], 4), ([0, -3], -4)], [5, 5], [(2, 1), (4, 3)])
        rows = [([1, 1], 5), ([-1, -1], -5), ([1, -1], 2), ([-1, 1], -2)]
        self.assert_fills(rows, [9, 9], [(7, 2), (3, 2)])
        self.assert_fills([([-1, -1], -9)], [4, 5], [(4, 1), (5, 1)])
        rows = [([1, 1, 1], 4), ([-1, -2, -3], -12)]
        self.assert_fills(rows, [4, 4, 4], [(0, 1), (0, 1), (4, 1)])

    def test_one_point_missed(self):
        rows = [([GREAT, 0], 2), ([-GREAT, 0], -3)]
        self.assert_there_are_none(rows, [5, 5])
        self.assert_there_are_none([([1, 1], 5), ([-1, -1], -5), ([1, -1], 2), ([-1, 1], -3)], [9, 9])
        self.assert_there_are_none([([-1, -1], -10)], [4, 5])

    def test_many_fills_of_the_least_sum(self):
        self.assert_sum([([-1, -1], -5)], [8, 8], 5)
        self.assert_sum([([-1, -1, -1, -1], -5)], [2, 2, 2, 2], 5)
        self.assert_sum([([-3, -3, -3], -7), ([1, 0, 0], 1)], [2, 2, 2], Fraction(7, 3))
        self.assert_sum([([-1, -1, 0, 0], -3), ([0, 0, -1, -1], -4)], [3, 3, 3, 3], 7)

    def test_eight_rows_and_four_rooms(self):
        rows = [([-1, 0, 0, 0], -1), ([0, -2, 0, 0], -3), ([0, 0, -3, 0], -5), ([0, 0, 0, -4], -7),
                ([1, 1, 1, 1], 9), ([-1, 1, 0, 0], 1), ([0, 1, -1, 0], 1), ([0, 0, 1, -1], 1)]
        self.assert_fills(rows, [9, 9, 9, 9], [(1, 1), (3, 2), (5, 3), (7, 4)])


class ManyAtOnePoint(LeastCase):
    def test_all_rows_through_nought(self):
        drawn = Drawn(5)
        for number in range(300):
            count = 1 + number % 4
            rows = [(drawn.numbers(count, -3, 3), 0) for _ in range(8)]
            self.assert_fills(rows, [6] * count, [(0, 1)] * count)
            asked = rows[:-1] + [([-1] * count, -1)]
            self.told_of(asked, [6] * count)

    def test_all_rows_through_one_point(self):
        drawn = Drawn(6)
        for number in range(400):
            count = 1 + number % 4
            point = drawn.numbers(count, 0, 4)
            rows = []
            for _ in range(8):
                row = drawn.numbers(count, -2, 2)
                rows.append((row, sum(a * b for a, b in zip(row, point))))
            with self.subTest(number=number):
                told = self.told_of(rows, point if number % 3 == 0 else [4] * count)
                self.assertEqual(told[0], "fill")

    def test_all_signs_at_one_point(self):
        for point in itertools.product([0, 1], repeat=3):
            rows = [(list(signs), sum(a * b for a, b in zip(signs, point)))
                    for signs in itertools.product([-1, 1], repeat=3)]
            self.assert_fills(rows, [1, 1, 1], [(part, 1) for part in point])
            self.assert_fills(rows, [7, 7, 7], [(part, 1) for part in point])

    def test_rows_in_which_other_ways_of_choosing_go_round(self):
        for rows, rooms in GOING_ROUND:
            for order in itertools.permutations(range(len(rooms))):
                turned = [([row[place] for place in order], top) for row, top in rows]
                with self.subTest(rows=turned):
                    kinds = {self.told_of(turned, rooms)[0], self.told_of(turned[::-1], rooms)[0]}
                    self.assertEqual(len(kinds), 1)

    def test_many_small_rows(self):
        for numbers in itertools.product([-1, 0, 1], repeat=6):
            rows = [(list(numbers[:2]), numbers[2]), (list(numbers[3:5]), numbers[5])]
            self.told_of(rows, [1, 2])


def least_by_corners(rows, rooms):
    """The least sum over all corners, None where no corner is right: for two rooms."""
    lines = [(*row, top) for row, top in rows] + [(1, 0, rooms[0]), (0, 1, rooms[1]), (-1, 0, 0), (0, -1, 0)]
    sums = []
    for (a, b, top), (c, d, other) in itertools.combinations(lines, 2):
        bottom = a * d - b * c
        if bottom != 0:
            x, y = Fraction(top * d - b * other, bottom), Fraction(a * other - top * c, bottom)
            if all(left * x + right * y <= most for left, right, most in lines):
                sums.append(x + y)
    return min(sums, default=None)


class ManyDrawn(LeastCase):
    def told_of_drawn(self, seed, count, size, room_size, top_size):
        drawn = Drawn(seed)
        told = {"fill": 0, "none": 0}
        for number in range(count):
            rooms = drawn.numbers(drawn.number(0, 4), 0, room_size)
            rows = [
                (drawn.numbers(len(rooms), -size, size), drawn.number(-top_size, top_size))
                for _ in range(drawn.number(0, 8))
            ]
            with self.subTest(seed=seed, number=number):
                told[self.told_of(rows, rooms)[0]] += 1
        self.assertGreater(min(told.values()), count // 10)

    def test_small_numbers(self):
        self.told_of_drawn(1, 600, 2, 3, 4)

    def test_middling_numbers(self):
        self.told_of_drawn(2, 400, 20, 30, 60)

    def test_numbers_of_a_ship(self):
        self.told_of_drawn(3, 300, 10 ** 4, 10 ** 9, 10 ** 12)

    def test_great_numbers(self):
        self.told_of_drawn(4, 300, GREAT, GREAT, GREAT)

    def test_eight_great_rows_and_four_great_rooms(self):
        drawn = Drawn(7)
        told = {"fill": 0, "none": 0}
        for number in range(200):
            rooms = drawn.numbers(4, GREAT // 2, GREAT)
            point = drawn.numbers(4, 0, 1000)
            rows = []
            for place in range(8):
                row = drawn.numbers(4, -GREAT // 10 ** 4, GREAT // 10 ** 4)
                reached = sum(a * b for a, b in zip(row, point))
                rows.append((row, max(-GREAT, min(GREAT, reached - (number % 2) * place))))
            with self.subTest(number=number):
                told[self.told_of(rows, rooms)[0]] += 1
        self.assertGreater(told["fill"], 50)

    def test_greatest_numbers_of_either_sign(self):
        drawn = Drawn(8)
        for number in range(200):
            rows = [([drawn.number(0, 1) * 2 * GREAT - GREAT for _ in range(4)], drawn.number(-1, 1) * GREAT)
                    for _ in range(8)]
            rooms = [drawn.number(0, 2) * GREAT // 2 for _ in range(4)]
            with self.subTest(number=number):
                self.told_of(rows, rooms)

    def test_rows_and_their_neighbours(self):
        # Rows that say nearly the same, so that what is left is very small.
        drawn = Drawn(9)
        for number in range(150):
            row = drawn.numbers(4, -GREAT, GREAT)
            rows = [([part + drawn.number(-1, 1) for part in row], drawn.number(-GREAT, GREAT)) for _ in range(4)]
            rows += [([-part + drawn.number(-1, 1) for part in row], -top + drawn.number(-1, 1)) for _, top in rows]
            with self.subTest(number=number):
                self.told_of(rows, drawn.numbers(4, 0, GREAT))

    def test_by_all_corners(self):
        drawn = Drawn(10)
        found = 0
        for number in range(300):
            rooms = drawn.numbers(2, 0, 5)
            rows = [(drawn.numbers(2, -4, 4), drawn.number(-8, 8)) for _ in range(drawn.number(1, 5))]
            wanted = least_by_corners(rows, rooms)
            with self.subTest(number=number):
                if wanted is None:
                    self.assert_there_are_none(rows, rooms)
                else:
                    self.assert_sum(rows, rooms, wanted)
                    found += wanted > 0
        self.assertGreater(found, 50)


class ToldIsTheAskersOwn(LeastCase):
    def test_told_anew(self):
        for rows, rooms in [([([-2, -1], -6)], [2, 8]), ([([-2, -1], -60)], [2, 8]), ([], []), ([([], -1)], [])]:
            told = least(rows, rooms)
            for part in told[1:]:
                for side in [part] if isinstance(part, list) else part:
                    side.append("something")
            self.told_of(rows, rooms)

    def test_told_stays_as_it_was(self):
        rows, rooms = [([-2, -1], -6), ([1, 1], 9)], [2, 8]
        told = least(rows, rooms)
        before = copy.deepcopy(told)
        rows[0][0][0] = 5
        rows.clear()
        rooms.clear()
        least([([-1], -5)], [9])
        self.assertEqual(told, before)

    def test_no_list_is_told_twice(self):
        for rows, rooms in [([([], 1)], []), ([], [5]), ([([1], 1)], [5]), ([], [])]:
            _, fills, prices = least(rows, rooms)
            self.assertEqual(len({id(fills), id(prices[0]), id(prices[1])}), 3)
        _, mix = least([([0], -1)], [5])
        self.assertIsNot(mix[0], mix[1])


if __name__ == "__main__":
    unittest.main()
