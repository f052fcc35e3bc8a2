"""Point 20, by the rows of 12, the middle of 13 and the checks of 16, 17 and 18."""

import copy
import unittest
from fractions import Fraction

from keel.ballast import ballast, breaking, within
from keel.checks import mix_shows, prices_show, right_fills
from keel.weights import middle, rows_of

TINY = 10 ** 60


def ship_with(bounds, tanks, own=(10, 0, 0, 0), stacks=()):
    return (own, bounds, list(stacks), list(tanks), [])


def box_of(name, weight):
    return (name, weight, "rome", "acid", 1000)


WIDE = (-1000, 1000, -1000, 1000, 1000, 10 ** 9)
STACKS = [("fore", -8, 2, 1, 2, 9, 900), ("aft", 8, -2, 1, 2, 9, 900)]
TANKS = [("bow", -10, 0, -1, 30), ("stern", 10, 0, -1, 30), ("port", 0, -5, -2, 20), ("star", 0, 5, -2, 20)]


class BallastCase(unittest.TestCase):
    def told_of(self, ship, cargo):
        """What is told, which is seen to hold."""
        before = repr((ship, cargo))
        told = ballast(ship, cargo)
        self.assertEqual(repr((ship, cargo)), before)
        self.assertIs(type(told), tuple)
        rows, rooms = rows_of(ship, cargo), [tank[4] for tank in ship[3]]
        if told[0] == "fill":
            self.assertEqual(len(told), 3)
            self.assertEqual([len(told[1]), len(told[2][0]), len(told[2][1])], [len(rooms), 6, len(rooms)])
            self.assertTrue(right_fills(rows, rooms, told[1]))
            self.assertTrue(prices_show(rows, rooms, told[1], told[2]))
            self.assertIs(within(ship, cargo, told[1]), True)
            self.assert_middle_within(ship, cargo, told[1])
        else:
            self.assertEqual(told[0], "none")
            self.assertEqual(len(told), 2)
            self.assertEqual([len(told[1][0]), len(told[1][1])], [6, len(rooms)])
            self.assertTrue(mix_shows(rows, rooms, told[1]))
        return told

    def assert_middle_within(self, ship, cargo, fills):
        along, across, above = [Fraction(*one) for one in middle(ship, cargo, fills)]
        bounds = ship[1]
        self.assertTrue(bounds[0] <= along <= bounds[1])
        self.assertTrue(bounds[2] <= across <= bounds[3])
        self.assertTrue(above <= bounds[4])

    def assert_fills(self, ship, cargo, wanted):
        told = self.told_of(ship, cargo)
        self.assertEqual(told[:2], ("fill", wanted))

    def assert_needed(self, ship, cargo, needed):
        """There are no fills, and the told mix holds the rows without which none shows it."""
        told = self.told_of(ship, cargo)
        self.assertEqual(told[0], "none")
        self.assertLessEqual(set(needed), set(breaking(told[1])))


class Ballast(BallastCase):
    def test_within_without_water(self):
        for tanks in [[], TANKS[:1], TANKS]:
            ship = ship_with((-1, 1, -1, 1, 0, 10), tanks)
            self.assert_fills(ship, [], [(0, 1)] * len(tanks))
        ship = ship_with((0, 0, 0, 0, 5, 100), TANKS, stacks=STACKS)
        cargo = [[box_of("one", 5), box_of("two", 3)], [box_of("three", 5), box_of("four", 3)]]
        self.assert_fills(ship, cargo, [(0, 1)] * 4)

    def test_one_tank_brings_her_within(self):
        # 10 at 4, and water at -10: 40 - 10 f is at most 2 (10 + f) from f = 20/12 on.
        self.assert_fills(ship_with((-9, 2, -9, 9, 9, 99), TANKS[:2], (10, 4, 0, 0)), [], [(5, 3), (0, 1)])
        self.assert_fills(ship_with((-2, 9, -9, 9, 9, 99), TANKS[:2], (10, -4, 0, 0)), [], [(0, 1), (5, 3)])
        self.assert_fills(ship_with((-9, 9, -9, 1, 9, 99), TANKS[2:], (10, 0, 4, 0)), [], [(5, 1), (0, 1)])
        self.assert_fills(ship_with((-9, 9, -1, 9, 9, 99), TANKS[2:], (10, 0, -4, 0)), [], [(0, 1), (5, 1)])
        # 10 at 4, and water at -1 or -2: the lower one does with less.
        ship = ship_with((-9, 9, -9, 9, 2, 99), [TANKS[0], ("low", 0, 0, -2, 20)], (10, 0, 0, 4))
        self.assert_fills(ship, [], [(0, 1), (5, 1)])

    def test_two_tanks_are_asked_for(self):
        ship = ship_with((0, 0, 0, 0, 9, 999), TANKS, (10, 4, -3, 0))
        self.assert_fills(ship, [], [(4, 1), (0, 1), (0, 1), (6, 1)])

    def test_boxes_count(self):
        ship = ship_with((0, 0, 0, 0, 9, 999), TANKS, stacks=STACKS)
        cargo = [[box_of("one", 5)], []]
        self.assert_fills(ship, cargo, [(0, 1), (4, 1), (2, 1), (0, 1)])
        cargo = [[], [box_of("one", 5)]]
        self.assert_fills(ship, cargo, [(4, 1), (0, 1), (0, 1), (2, 1)])

    def test_rooms_count(self):
        own = (10, 4, 0, 0)
        bounds = (-9, 2, -9, 9, 9, 99)
        self.assert_fills(ship_with(bounds, [("a", -10, 0, 0, 1), ("b", -2, 0, 0, 9)], own), [], [(1, 1), (2, 1)])
        self.assert_fills(ship_with(bounds, [("a", -10, 0, 0, 1), ("b", -2, 0, 0, 2)], own), [], [(1, 1), (2, 1)])
        ship = ship_with(bounds, [("a", -10, 0, 0, 1), ("b", -2, 0, 0, 1)], own)
        self.assert_needed(ship, [], [0])

    def test_most_counts_the_water(self):
        own = (10, 4, 0, 0)
        for most in [12, 13, 99]:
            self.assert_fills(ship_with((-9, 2, -9, 9, 9, most), [("a", -8, 0, 0, 9)], own), [], [(2, 1)])
        self.assert_needed(ship_with((-9, 2, -9, 9, 9, 11), [("a", -8, 0, 0, 9)], own), [], [0, 5])

    def test_too_heavy(self):
        self.assert_fills(ship_with((-9, 9, -9, 9, 9, 10), TANKS), [], [(0, 1)] * 4)
        self.assert_needed(ship_with((-9, 9, -9, 9, 9, 9), TANKS), [], [5])
        self.assert_needed(ship_with((-9, 9, -9, 9, 9, 1), []), [], [5])
        ship = ship_with((-9, 9, -9, 9, 9, 15), [], stacks=STACKS)
        self.assert_fills(ship, [[box_of("one", 5)], []], [])
        self.assert_needed(ship, [[box_of("one", 6)], []], [5])

    def test_no_water_brings_her_within(self):
        self.assert_needed(ship_with((-9, 3, -9, 9, 9, 99), [], (10, 4, 0, 0)), [], [0])
        self.assert_needed(ship_with((-3, 9, -9, 9, 9, 99), [], (10, -4, 0, 0)), [], [1])
        self.assert_needed(ship_with((-9, 9, -9, 3, 9, 99), [], (10, 0, 4, 0)), [], [2])
        self.assert_needed(ship_with((-9, 9, -3, 9, 9, 99), [], (10, 0, -4, 0)), [], [3])
        self.assert_needed(ship_with((-9, 9, -9, 9, 3, 99), [], (10, 0, 0, 4)), [], [4])
        # Water on the wrong side alone.
        self.assert_needed(ship_with((-9, 3, -9, 9, 9, 99), TANKS[1:2], (10, 4, 0, 0)), [], [0])
        # Too little room.
        self.assert_needed(ship_with((-90, 3, -9, 9, 9, 99), [("a", -2, 0, 0, 1)], (10, 4, 0, 0)), [], [0])

    def test_bounds_that_break_together(self):
        # Water for along brings her over across.
        ship = ship_with((-90, 3, -9, 1, 9, 99), [("a", -7, 20, 0, 50)], (10, 4, 0, 0))
        self.assert_needed(ship, [], [0, 2])

    def test_many_ships(self):
        state = 99

        def drawn(low, high):
            nonlocal state
            state = (state * 6364136223846793005 + 1442695040888963407) % 2 ** 64
            return low + (state >> 33) % (high - low + 1)

        told = {"fill": 0, "dry": 0, "none": 0}
        for number in range(300):
            size = [6, 10 ** 9][number % 2]
            bounds = sorted(drawn(-size, size) for _ in range(2)) + sorted(drawn(-size, size) for _ in range(2))
            bounds = tuple(bounds) + (drawn(-size // 2, size), drawn(size, 10 * size))
            tanks = [(name, drawn(-size, size), drawn(-size, size), drawn(-size, size), drawn(1, size))
                     for name in "abcd"[:drawn(0, 4)]]
            stacks = [(name, drawn(-size, size), drawn(-size, size), drawn(-size, size), drawn(1, 3), 9, size)
                      for name in "abcdef"[:drawn(0, 6)]]
            cargo = [[box_of(stack[0] + letter, drawn(1, size)) for letter in "abcd"[:drawn(0, 4)]]
                     for stack in stacks]
            own = (drawn(1, size), drawn(-size, size), drawn(-size, size), drawn(-size, size))
            with self.subTest(number=number):
                answer = self.told_of(ship_with(bounds, tanks, own, stacks), cargo)
                dry = answer[0] == "fill" and not any(fill[0] for fill in answer[1])
                told["dry" if dry else answer[0]] += 1
        self.assertGreater(min(told.values()), 5)

    def test_told_is_the_askers_own(self):
        ship = ship_with((0, 0, 0, 0, 9, 999), TANKS, (10, 4, -3, 0))
        told = ballast(ship, [])
        for side in [told[1], *told[2]]:
            side.append("something")
        told = self.told_of(ship, [])
        before = copy.deepcopy(told)
        ship[3].clear()
        self.assertEqual(told, before)


class Breaking(unittest.TestCase):
    def assert_breaking(self, mix, wanted):
        before = repr(mix)
        told = breaking(mix)
        self.assertIs(type(told), list)
        self.assertEqual(told, wanted)
        self.assertEqual(repr(mix), before)

    def test_none(self):
        self.assert_breaking(([(0, 1)] * 6, []), [])
        self.assert_breaking(([(0, 1)] * 6, [(1, 1)] * 4), [])

    def test_all(self):
        self.assert_breaking(([(1, 1)] * 6, []), [0, 1, 2, 3, 4, 5])
        self.assert_breaking(([(1, TINY)] * 6, [(0, 1)] * 4), [0, 1, 2, 3, 4, 5])

    def test_some(self):
        for number in range(2 ** 6):
            wanted = [place for place in range(6) if number >> place & 1]
            parts = [(3, 7) if place in wanted else (0, 1) for place in range(6)]
            self.assert_breaking((parts, [(1, 2), (0, 1)]), wanted)

    def test_parts_of_any_size(self):
        self.assert_breaking(([(0, 1), (1, TINY), (TINY, 1), (0, 1), (2, 3), (0, 1)], []), [1, 2, 4])

    def test_told_is_the_askers_own(self):
        mix = ([(1, 1)] * 6, [])
        told = breaking(mix)
        told.clear()
        self.assertEqual(breaking(mix), [0, 1, 2, 3, 4, 5])


class Within(unittest.TestCase):
    def assert_told(self, ship, cargo, fills, wanted):
        before = repr((ship, cargo, fills))
        self.assertIs(within(ship, cargo, fills), wanted)
        self.assertEqual(repr((ship, cargo, fills)), before)

    def test_fills_at_their_edges(self):
        ship = ship_with(WIDE, TANKS)
        for place, tank in enumerate(TANKS):
            room = tank[4]
            for fill, wanted in [((0, 1), True), ((1, TINY), True), ((-1, TINY), False), ((-1, 1), False),
                                 ((room, 1), True), ((room * TINY - 1, TINY), True),
                                 ((room * TINY + 1, TINY), False), ((room + 1, 1), False)]:
                fills = [(1, 2)] * 4
                fills[place] = fill
                with self.subTest(place=place, fill=fill):
                    self.assert_told(ship, [], fills, wanted)

    def test_without_tanks(self):
        self.assert_told(ship_with((0, 0, 0, 0, 0, 10), []), [], [], True)
        for bounds in [(1, 9, -9, 9, 9, 99), (-9, -1, -9, 9, 9, 99), (-9, 9, 1, 9, 9, 99), (-9, 9, -9, -1, 9, 99),
                       (-9, 9, -9, 9, -1, 99), (-9, 9, -9, 9, 9, 9)]:
            self.assert_told(ship_with(bounds, []), [], [], False)

    def test_each_row_just_met_and_just_missed(self):
        # 10 at (4, -2, 3), and a fill of 10 at (-2, 6, 1): the middle is (1, 2, 2), the weight 20.
        tank = ("a", -2, 6, 1, 50)
        own = (10, 4, -2, 3)
        met = [1, 1, 2, 2, 2, 20]
        for place, edge in enumerate(met):
            bounds = list(WIDE)
            bounds[place] = edge
            self.assert_told(ship_with(tuple(bounds), [tank], own), [], [(10, 1)], True)
            low = place in (0, 2)
            bounds[place] = edge + 1 if low else edge - 1
            self.assert_told(ship_with(tuple(bounds), [tank], own), [], [(10, 1)], False)
        self.assert_told(ship_with((1, 1, 2, 2, 2, 20), [tank], own), [], [(10, 1)], True)

    def test_each_row_missed_by_a_very_small_fraction(self):
        tank = ("a", -2, 6, 1, 50)
        own = (10, 4, -2, 3)
        less, more = (10 * TINY - 1, TINY), (10 * TINY + 1, TINY)
        # More water brings her along down, across up, above down.
        for place, edge, missed, met in [(0, 1, more, less), (1, 1, less, more), (2, 2, less, more),
                                         (3, 2, more, less), (4, 2, less, more), (5, 20, more, less)]:
            bounds = list(WIDE)
            bounds[place] = edge
            ship = ship_with(tuple(bounds), [tank], own)
            with self.subTest(place=place):
                self.assert_told(ship, [], [missed], False)
                self.assert_told(ship, [], [met], True)

    def test_boxes_count(self):
        ship = ship_with((-4, 0, -9, 9, 9, 20), TANKS[:1], stacks=STACKS)
        self.assert_told(ship, [[box_of("one", 10)], []], [(0, 1)], True)
        self.assert_told(ship, [[box_of("one", 11)], []], [(0, 1)], False)
        self.assert_told(ship, [[], [box_of("one", 5)]], [(0, 1)], False)
        self.assert_told(ship, [[], [box_of("one", 5)]], [(4, 1)], True)
        self.assert_told(ship, [[], [box_of("one", 5)]], [(4 * TINY - 1, TINY)], False)
        self.assert_told(ship, [[], [box_of("one", 5)]], [(6, 1)], False)

    def test_below_nought_though_the_rows_are_met(self):
        ship = ship_with(WIDE, TANKS)
        for place in range(4):
            fills = [(0, 1)] * 4
            fills[place] = (-1, 3)
            self.assert_told(ship, [], fills, False)


if __name__ == "__main__":
    unittest.main()
