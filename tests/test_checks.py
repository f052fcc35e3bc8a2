"""Points 16, 17 and 18: what right_fills, prices_show and mix_shows tell."""

import unittest

from keel.checks import mix_shows, prices_show, right_fills

TINY = 10 ** 60


def just_above(whole):
    return (whole * TINY + 1, TINY)


def just_below(whole):
    return (whole * TINY - 1, TINY)


def whole_ones(*numbers):
    return [(number, 1) for number in numbers]


class CheckCase(unittest.TestCase):
    def assert_told(self, asked, arguments, wanted):
        before = repr(arguments)
        self.assertIs(asked(*arguments), wanted)
        self.assertEqual(repr(arguments), before)


class RightFills(CheckCase):
    def assert_right(self, rows, rooms, fills):
        self.assert_told(right_fills, (rows, rooms, fills), True)

    def assert_wrong(self, rows, rooms, fills):
        self.assert_told(right_fills, (rows, rooms, fills), False)

    def test_no_rows(self):
        self.assert_right([], [5, 7], [(5, 2), (20, 3)])

    def test_no_rooms(self):
        self.assert_right([], [], [])
        self.assert_right([([], 0)], [], [])
        self.assert_right([([], 3), ([], 0)], [], [])
        self.assert_wrong([([], -1)], [], [])
        self.assert_wrong([([], 3), ([], -1)], [], [])

    def test_fill_of_nought_and_just_below(self):
        for place in range(3):
            fills = whole_ones(2, 2, 2)
            for fill, right in [((0, 1), True), ((1, TINY), True), ((-1, TINY), False), ((-1, 1), False)]:
                fills[place] = fill
                self.assert_told(right_fills, ([], [5, 5, 5], fills), right)

    def test_fill_of_its_room_and_just_above(self):
        rooms = [3, 4, 5]
        for place in range(3):
            fills = whole_ones(2, 2, 2)
            room = rooms[place]
            for fill, right in [((room, 1), True), (just_below(room), True), (just_above(room), False),
                                ((room + 1, 1), False)]:
                fills[place] = fill
                self.assert_told(right_fills, ([], rooms, fills), right)

    def test_room_of_nought(self):
        self.assert_right([], [0], [(0, 1)])
        self.assert_wrong([], [0], [(1, TINY)])
        self.assert_wrong([], [0], [(-1, TINY)])

    def test_row_just_met_and_just_missed(self):
        for row, top in [([2, -3, 1], 3), ([1, 1, 1], 10), ([-1, -1, -1], -10), ([0, 0, 0], 0), ([5, 0, 0], 25)]:
            rows = [([0, 0, 0], 7), (row, top), ([1, 0, 0], 90)]
            with self.subTest(row=row):
                self.assert_right(rows, [9, 9, 9], whole_ones(5, 3, 2))
                missed = [([0, 0, 0], 7), (row, top - 1), ([1, 0, 0], 90)]
                self.assert_wrong(missed, [9, 9, 9], whole_ones(5, 3, 2))

    def test_row_met_and_missed_by_a_very_small_fraction(self):
        self.assert_right([([1, 1], 7)], [9, 9], [just_below(5), (2, 1)])
        self.assert_right([([1, 1], 7)], [9, 9], [just_below(5), just_above(2)])
        self.assert_wrong([([1, 1], 7)], [9, 9], [just_above(5), (2, 1)])
        self.assert_wrong([([-1, -1], -7)], [9, 9], [just_below(5), (2, 1)])
        self.assert_right([([-1, -1], -7)], [9, 9], [just_above(5), (2, 1)])

    def test_fractions_are_added_up(self):
        fills = [(1, 2), (1, 3), (1, 6)]
        self.assert_right([([1, 1, 1], 1), ([-1, -1, -1], -1), ([6, 6, 6], 6)], [1, 1, 1], fills)
        self.assert_wrong([([2, 1, 1], 1)], [1, 1, 1], fills)
        self.assert_right([([2, -3, 6], 1), ([-2, 3, -6], -1)], [1, 1, 1], fills)

    def test_each_row_counts(self):
        rows = [([1, 0], 3), ([0, 1], 3), ([1, 1], 5), ([-1, 0], -1)]
        self.assert_right(rows, [9, 9], whole_ones(2, 3))
        self.assert_wrong(rows, [9, 9], whole_ones(4, 1))
        self.assert_wrong(rows, [9, 9], whole_ones(1, 4))
        self.assert_wrong(rows, [9, 9], whole_ones(3, 3))
        self.assert_wrong(rows, [9, 9], whole_ones(0, 3))

    def test_below_nought_though_rows_are_met(self):
        self.assert_wrong([([1, 1], 5)], [9, 9], whole_ones(-1, 3))
        self.assert_wrong([([1, 1], 5)], [9, 9], whole_ones(3, -1))
        self.assert_wrong([], [9], [(-1, 3)])

    def test_great_numbers(self):
        great = 10 ** 22
        rows = [([great, -great], 1)]
        self.assert_right(rows, [great, great], [(1, great), (0, 1)])
        self.assert_right(rows, [great, great], whole_ones(great, great))
        self.assert_wrong(rows, [great, great], whole_ones(great, great - 1))
        self.assert_wrong(rows, [great, great], [(1, great - 1), (0, 1)])
        self.assert_right([([great], great ** 2)], [great], [(great, 1)])


# One row of two tanks, and what shows that its fills are the least.
ROWS = [([-2, -1], -6), ([1, 1], 9)]
ROOMS = [2, 8]
FILLS = whole_ones(2, 2)
# 1 - 2 + 1 and 1 - 1 come to 0; 4 - 6 + 2 comes to 0.
PRICES = (whole_ones(1, 0), whole_ones(1, 0))


def with_part(mix, side, place, part):
    lists = [list(mix[0]), list(mix[1])]
    lists[side][place] = part
    return tuple(lists)


class PricesShow(CheckCase):
    def assert_shows(self, rows, rooms, fills, prices):
        self.assert_told(prices_show, (rows, rooms, fills, prices), True)

    def assert_fails(self, rows, rooms, fills, prices):
        self.assert_told(prices_show, (rows, rooms, fills, prices), False)

    def test_ordinary(self):
        self.assert_shows(ROWS, ROOMS, FILLS, PRICES)

    def test_no_fill_needs_no_price(self):
        self.assert_shows([([1, -1], 5)], [2, 8], whole_ones(0, 0), (whole_ones(0), whole_ones(0, 0)))

    def test_no_rows(self):
        self.assert_shows([], [2, 8], whole_ones(0, 0), ([], whole_ones(0, 0)))
        self.assert_fails([], [2, 8], whole_ones(1, 0), ([], whole_ones(0, 0)))
        self.assert_fails([], [2, 8], whole_ones(0, 0), ([], whole_ones(0, 1)))

    def test_no_rooms(self):
        self.assert_shows([], [], [], ([], []))
        self.assert_shows([([], 0), ([], 4)], [], [], (whole_ones(3, 0), []))
        self.assert_fails([([], 0), ([], 4)], [], [], (whole_ones(3, 1), []))
        self.assert_shows([([], -4), ([], 4)], [], [], (whole_ones(2, 2), []))

    def test_fractions(self):
        # A fill of 7/3 is the least that 3 times it brings to 7.
        self.assert_shows([([-3], -7)], [5], [(7, 3)], ([(1, 3)], [(0, 1)]))
        self.assert_fails([([-3], -7)], [5], [(7, 3)], ([(1, 4)], [(0, 1)]))
        self.assert_fails([([-3], -7)], [5], [(9, 4)], ([(1, 3)], [(0, 1)]))

    def test_room_of_nought(self):
        self.assert_shows([], [0], [(0, 1)], ([], [(5, 1)]))
        self.assert_fails([], [0], [(0, 1)], ([], [(-1, 2)]))

    def test_price_below_nought_alone(self):
        # All sums are as they should be, and only the sign of the one price is wrong.
        self.assert_fails([([-1], -2), ([0], 0)], [9], [(2, 1)], (whole_ones(1, -1), [(0, 1)]))
        self.assert_fails([([0], 0), ([-1], -2)], [9], [(2, 1)], ([(-1, TINY), (1, 1)], [(0, 1)]))
        self.assert_shows([([0], 0), ([-1], -2)], [9], [(2, 1)], ([(1, TINY), (1, 1)], [(0, 1)]))
        self.assert_fails([([-1, 0], -2)], [9, 0], whole_ones(2, 0), ([(1, 1)], [(0, 1), (-1, 2)]))
        self.assert_fails([([-1, 0], -2)], [9, 0], whole_ones(2, 0), ([(1, 1)], [(0, 1), (-1, TINY)]))
        self.assert_shows([([-1, 0], -2)], [9, 0], whole_ones(2, 0), ([(1, 1)], [(0, 1), (1, TINY)]))
        self.assert_fails([([-1, 0], -2)], [0, 9], whole_ones(2, 0), ([(1, 1)], [(-1, TINY), (0, 1)]))

    def test_sum_of_a_tank_below_nought_alone(self):
        # The last sum comes to 0, but a tank's comes to less.
        self.assert_fails([([-1], -2)], [9], [(4, 1)], ([(2, 1)], [(0, 1)]))
        self.assert_fails([([-1, -3], -2)], [9, 9], whole_ones(2, 0), ([(1, 1)], whole_ones(0, 0)))
        self.assert_fails([([-3, -1], -2)], [9, 9], whole_ones(0, 2), ([(1, 1)], whole_ones(0, 0)))
        self.assert_shows([([-1, -1], -2)], [9, 9], whole_ones(0, 2), ([(1, 1)], whole_ones(0, 0)))

    def test_sum_of_a_tank_off_by_a_very_small_fraction(self):
        # Room and price of the second tank leave the last sum as it is, for the room is 0.
        rows, rooms = [([-1, -2], -2)], [9, 0]
        self.assert_shows(rows, rooms, whole_ones(2, 0), ([(1, 1)], [(0, 1), (1, 1)]))
        self.assert_shows(rows, rooms, whole_ones(2, 0), ([(1, 1)], [(0, 1), just_above(1)]))
        self.assert_fails(rows, rooms, whole_ones(2, 0), ([(1, 1)], [(0, 1), just_below(1)]))

    def test_last_sum_alone(self):
        self.assert_fails(ROWS, ROOMS, whole_ones(2, 3), PRICES)
        self.assert_fails(ROWS, ROOMS, whole_ones(2, 1), PRICES)
        self.assert_fails(ROWS, ROOMS, whole_ones(1, 2), PRICES)
        self.assert_fails(ROWS, [3, 8], FILLS, PRICES)
        self.assert_fails([([-2, -1], -5), ([1, 1], 9)], ROOMS, FILLS, PRICES)
        self.assert_fails([([-2, -1], -7), ([1, 1], 9)], ROOMS, FILLS, PRICES)
        self.assert_shows([([-2, -1], -6), ([1, 1], 3)], ROOMS, FILLS, PRICES)

    def test_last_sum_off_by_a_very_small_fraction(self):
        for fill in [just_above(2), just_below(2)]:
            self.assert_fails(ROWS, ROOMS, [fill, (2, 1)], PRICES)
            self.assert_fails(ROWS, ROOMS, [(2, 1), fill], PRICES)
        self.assert_shows(ROWS, ROOMS, [just_above(2), just_below(2)], PRICES)
        self.assert_fails(ROWS, ROOMS, FILLS, with_part(PRICES, 1, 1, (1, TINY)))
        self.assert_fails(ROWS, ROOMS, FILLS, with_part(PRICES, 0, 1, (1, TINY)))
        self.assert_fails(ROWS, ROOMS, FILLS, with_part(PRICES, 1, 0, just_above(1)))

    def test_every_price_counts(self):
        rows = [([-2, -1], -6), ([1, 1], 9)]
        for side in range(2):
            for place in range(2):
                for part in [(1, 3), (5, 2)]:
                    self.assert_fails(rows, ROOMS, FILLS, with_part(PRICES, side, place, part))

    def test_fills_are_not_looked_at(self):
        # Above a room, below 0, past a row: their sum alone counts.
        for fills in [whole_ones(4, 0), whole_ones(-1, 5), whole_ones(9, -5), [(7, 2), (1, 2)]]:
            self.assert_shows(ROWS, ROOMS, fills, PRICES)

    def test_great_numbers(self):
        great = 10 ** 22
        self.assert_shows([([-great], -1)], [great], [(1, great)], ([(1, great)], [(0, 1)]))
        self.assert_fails([([-great], -1)], [great], [(1, great)], ([(1, great + 1)], [(0, 1)]))
        self.assert_fails([([-great], -1)], [great], [(1, great)], ([(1, great - 1)], [(0, 1)]))


class MixShows(CheckCase):
    def assert_shows(self, rows, rooms, mix):
        self.assert_told(mix_shows, (rows, rooms, mix), True)

    def assert_fails(self, rows, rooms, mix):
        self.assert_told(mix_shows, (rows, rooms, mix), False)

    def test_ordinary(self):
        # At least 20, where the rooms hold 9: the row and the two rooms show it.
        self.assert_shows([([-1, -1], -20)], [4, 5], ([(1, 1)], whole_ones(1, 1)))
        self.assert_shows([([-1, -1], -20)], [4, 5], ([(3, 7)], [(3, 7), (3, 7)]))

    def test_two_rows(self):
        rows = [([1, 2], 3), ([-1, -2], -4)]
        self.assert_shows(rows, [9, 9], (whole_ones(1, 1), whole_ones(0, 0)))
        self.assert_fails(rows, [9, 9], (whole_ones(1, 0), whole_ones(0, 0)))
        self.assert_fails(rows, [9, 9], (whole_ones(0, 1), whole_ones(0, 0)))

    def test_no_rows(self):
        self.assert_fails([], [4, 5], ([], whole_ones(0, 0)))
        self.assert_fails([], [4, 5], ([], whole_ones(1, 1)))
        self.assert_fails([], [0], ([], [(1, 1)]))

    def test_no_rooms(self):
        self.assert_fails([], [], ([], []))
        self.assert_shows([([], -1)], [], ([(1, 1)], []))
        self.assert_fails([([], -1)], [], ([(0, 1)], []))
        self.assert_fails([([], 0)], [], ([(1, 1)], []))
        self.assert_shows([([], 5), ([], -1)], [], (whole_ones(0, 2), []))

    def test_part_below_nought_alone(self):
        self.assert_fails([([0], 1)], [9], ([(-1, 1)], [(0, 1)]))
        self.assert_fails([([0], 0), ([0], -1)], [9], ([(-1, TINY), (1, 1)], [(0, 1)]))
        self.assert_shows([([0], 0), ([0], -1)], [9], ([(1, TINY), (1, 1)], [(0, 1)]))
        self.assert_fails([([1], 0), ([0], -1)], [9], (whole_ones(1, 1), [(-1, 2)]))
        self.assert_fails([([1, 0], 0), ([0, 0], -1)], [9, 0], (whole_ones(1, 1), [(-1, TINY), (0, 1)]))
        self.assert_fails([([1, 1], 0), ([0, 0], -1)], [9, 0], (whole_ones(1, 1), [(0, 1), (-1, TINY)]))
        self.assert_fails([([1], 5)], [9], ([(1, 1)], [(-1, 1)]))

    def test_sum_of_a_tank_below_nought_alone(self):
        rows = [([-1, -1], -20)]
        self.assert_fails(rows, [4, 5], ([(1, 1)], whole_ones(0, 1)))
        self.assert_fails(rows, [4, 5], ([(1, 1)], whole_ones(1, 0)))
        self.assert_fails(rows, [4, 5], ([(1, 1)], whole_ones(0, 0)))
        self.assert_fails(rows, [4, 5], ([(1, 1)], [just_below(1), (1, 1)]))
        self.assert_fails(rows, [4, 5], ([(1, 1)], [(1, 1), just_below(1)]))
        self.assert_fails(rows, [4, 5], ([just_above(1)], whole_ones(1, 1)))
        self.assert_shows(rows, [4, 5], ([(1, 1)], [just_above(1), just_above(1)]))

    def test_last_sum_alone(self):
        mix = ([(1, 1)], whole_ones(1, 1))
        self.assert_shows([([-1, -1], -10)], [4, 5], mix)
        self.assert_fails([([-1, -1], -9)], [4, 5], mix)
        self.assert_fails([([-1, -1], -8)], [4, 5], mix)
        self.assert_fails([([-1, -1], -10)], [5, 5], mix)
        self.assert_fails([([-1, -1], -10)], [4, 6], mix)

    def test_last_sum_by_a_very_small_fraction(self):
        rows = [([0], -1), ([0], 1)]
        self.assert_shows(rows, [0], ([(1, 1), just_below(1)], [(0, 1)]))
        self.assert_fails(rows, [0], ([(1, 1), (1, 1)], [(0, 1)]))
        self.assert_fails(rows, [0], ([(1, 1), just_above(1)], [(0, 1)]))
        self.assert_shows([([-1], -9)], [8], ([(1, 1)], [(9 * TINY - 1, 8 * TINY)]))
        self.assert_fails([([-1], -9)], [8], ([(1, 1)], [(9, 8)]))

    def test_nothing_mixed(self):
        self.assert_fails([([0, 0], -1)], [4, 5], ([(0, 1)], whole_ones(0, 0)))

    def test_no_one_is_added_here(self):
        # As prices this would do for the tank, for there 1 is added.
        self.assert_fails([([-1], -9)], [5], ([(1, 1)], [(1, 2)]))
        self.assert_fails([([-1], -9)], [5], ([(1, 1)], [(0, 1)]))
        self.assert_shows([([-1], -9)], [5], ([(1, 1)], [(1, 1)]))

    def test_great_numbers(self):
        great = 10 ** 22
        self.assert_shows([([-1], -great)], [great - 1], ([(1, 1)], [(1, 1)]))
        self.assert_fails([([-1], -great)], [great], ([(1, 1)], [(1, 1)]))
        self.assert_shows([([-1], -great)], [great - 1], ([(great, 3)], [(great, 3)]))


if __name__ == "__main__":
    unittest.main()
