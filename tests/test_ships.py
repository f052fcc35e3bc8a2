"""Points 6, 7 and 8."""

import copy
import unittest

from keel.errors import NoBounds, NoName, NoSize, NoWeight
from keel.ships import apart_by, is_name, right_ship

NO_NAMES = [
    "", "abcdefghi", "A", "Fore", "forE", "a1", "1", "a b", " a", "a ", " ", "a\n", "\n", "\na", "a\tb",
    "a-b", "a_b", "a.b", "`", "{", "@", "[", "\u00e9", "\u00df", "\u0430", "\uff41", "\u00aa",
    None, 0, 1, -5, True, False, [], ["a"], ["a", "b"], [["a"]], (), ("a",), ("a", "b"), (["a"],),
]

BUILT = [
    [100, 5, 0, 3],
    [-10, 10, -2, 2, 9, 1000],
    [
        ["fore", -8, 1, 2, 3, 4, 50],
        ["mid", 0, 0, -2, 1, 2, 60],
        ["aft", 9, -1, 2, 3, 4, 70],
    ],
    [
        ["port", 0, -4, 1, 30],
        ["star", 0, 4, 1, 30],
        ["peak", 12, 0, 1, 20],
    ],
    [
        ["acid", "food", 5],
        ["acid", "acid", 2],
        ["fire", "food", 3],
    ],
]


def frozen(built):
    return (
        tuple(built[0]),
        tuple(built[1]),
        [tuple(stack) for stack in built[2]],
        [tuple(tank) for tank in built[3]],
        [tuple(row) for row in built[4]],
    )


def changed_ship(*changes):
    """The ship of BUILT with each (path, value) put in."""
    built = copy.deepcopy(BUILT)
    for path, value in changes:
        part = built
        for step in path[:-1]:
            part = part[step]
        part[path[-1]] = value
    return frozen(built)


# What is put in, and the class that it is refused with, in the order of point 8.
FAULTS = [
    ((0, 0), 0, NoWeight),
    ((1, 0), 11, NoBounds),
    ((1, 2), 3, NoBounds),
    ((1, 5), 0, NoSize),
    ((2, 0, 0), "", NoName),
    ((2, 0, 4), 0, NoSize),
    ((2, 0, 5), 0, NoSize),
    ((2, 0, 6), 0, NoSize),
    ((2, 1, 0), ["mid"], NoName),
    ((2, 1, 4), 0, NoSize),
    ((2, 1, 5), 0, NoSize),
    ((2, 1, 6), 0, NoSize),
    ((2, 2, 0), "fore", NoName),
    ((2, 2, 4), 0, NoSize),
    ((2, 2, 5), 0, NoSize),
    ((2, 2, 6), 0, NoSize),
    ((3, 0, 0), None, NoName),
    ((3, 0, 4), 0, NoSize),
    ((3, 1, 0), "star8", NoName),
    ((3, 1, 4), 0, NoSize),
    ((3, 2, 0), "port", NoName),
    ((3, 2, 4), 0, NoSize),
    ((4, 0, 0), "Acid", NoName),
    ((4, 0, 1), 7, NoName),
    ((4, 0, 2), 0, NoSize),
    ((4, 1, 0), (), NoName),
    ((4, 1, 1), "", NoName),
    ((4, 1, 2), 0, NoSize),
    ((4, 2, 0), True, NoName),
    ((4, 2, 1), "food ", NoName),
    ((4, 2, 2), 0, NoSize),
]


class IsName(unittest.TestCase):
    def test_names(self):
        for thing in ["a", "z", "m", "az", "abcdefgh", "zzzzzzzz", "fore", "none", "aaaaaaa"]:
            with self.subTest(thing=thing):
                self.assertIs(is_name(thing), True)

    def test_every_small_letter_and_no_other_sign(self):
        letters = "abcdefghijklmnopqrstuvwxyz"
        for code in range(0, 600):
            with self.subTest(code=code):
                self.assertIs(is_name(chr(code)), chr(code) in letters)
                self.assertIs(is_name("a" + chr(code) + "z"), chr(code) in letters)

    def test_lengths(self):
        for length in range(0, 20):
            with self.subTest(length=length):
                self.assertIs(is_name("q" * length), 1 <= length <= 8)

    def test_no_names(self):
        for thing in NO_NAMES:
            with self.subTest(thing=thing):
                self.assertIs(is_name(thing), False)


class ShipCase(unittest.TestCase):
    def assert_right(self, ship):
        before = copy.deepcopy(ship)
        self.assertIs(right_ship(ship), True)
        self.assertEqual(repr(ship), repr(before))

    def assert_refused(self, ship, refusal):
        before = copy.deepcopy(ship)
        with self.assertRaises(refusal) as caught:
            right_ship(ship)
        self.assertIs(type(caught.exception), refusal)
        self.assertEqual(repr(ship), repr(before))

    def assert_edge(self, path, last_right, refusal):
        with self.subTest(path=path):
            self.assert_right(changed_ship((path, last_right)))
            for further in [1, 2, 10 ** 9]:
                self.assert_refused(changed_ship((path, last_right - further)), refusal)


class RightShips(ShipCase):
    def test_ordinary(self):
        self.assert_right(changed_ship())

    def test_without_lists(self):
        for lists in [(2,), (3,), (4,), (2, 3), (2, 4), (3, 4), (2, 3, 4)]:
            with self.subTest(lists=lists):
                self.assert_right(changed_ship(*[((number,), []) for number in lists]))

    def test_least_ship(self):
        self.assert_right(((1, 0, 0, 0), (0, 0, 0, 0, 0, 1), [], [], []))

    def test_asked_twice(self):
        ship = changed_ship()
        self.assert_right(ship)
        self.assert_right(ship)

    def test_places_of_any_sign(self):
        for value in [-(10 ** 9), -1, 0, 1, 10 ** 9]:
            for path in [(0, 1), (0, 2), (0, 3), (1, 4)]:
                self.assert_right(changed_ship((path, value)))
            for part in [2, 3]:
                for place in [1, 2, 3]:
                    self.assert_right(changed_ship(((part, 1, place), value)))

    def test_great_sizes(self):
        sizes = [(0, 0), (1, 5), (2, 1, 4), (2, 1, 5), (2, 1, 6), (3, 1, 4), (4, 1, 2)]
        self.assert_right(changed_ship(*[(path, 10 ** 9) for path in sizes]))

    def test_bounds_alike_and_far_off(self):
        self.assert_right(changed_ship(((1, 0), -(10 ** 9)), ((1, 1), -(10 ** 9))))
        self.assert_right(changed_ship(((1, 2), 10 ** 9), ((1, 3), 10 ** 9)))

    def test_own_weight_above_most(self):
        self.assert_right(changed_ship(((1, 5), 1)))

    def test_stack_and_tank_of_one_name(self):
        self.assert_right(changed_ship(((3, 0, 0), "fore"), ((3, 1, 0), "mid"), ((3, 2, 0), "aft")))

    def test_kinds_may_be_alike_and_named_like_stacks(self):
        self.assert_right(changed_ship(((4, 0), ["fore", "port", 1]), ((4, 1), ["fore", "port", 1])))
        self.assert_right(changed_ship(((4, 0), ["fore", "fore", 1])))

    def test_names_of_one_and_eight_letters(self):
        for path in [(2, 1, 0), (3, 1, 0), (4, 1, 0), (4, 1, 1)]:
            for name in ["a", "z", "abcdefgh"]:
                self.assert_right(changed_ship((path, name)))

    def test_most_stacks_tanks_and_rows(self):
        self.assert_right(changed_ship(
            ((2,), [[name, 0, 0, 0, 1, 1, 1] for name in "abcdef"]),
            ((3,), [[name, 0, 0, 0, 1] for name in "abcd"]),
            ((4,), [["a", name, 1] for name in "abcd"]),
        ))


class RefusedShips(ShipCase):
    def test_own_weight(self):
        self.assert_edge((0, 0), 1, NoWeight)

    def test_bounds(self):
        self.assert_edge((1, 1), -10, NoBounds)
        self.assert_edge((1, 3), -2, NoBounds)
        for path, last_right in [((1, 0), 10), ((1, 2), 2)]:
            self.assert_right(changed_ship((path, last_right)))
            self.assert_refused(changed_ship((path, last_right + 1)), NoBounds)

    def test_most(self):
        self.assert_edge((1, 5), 1, NoSize)

    def test_stack_sizes(self):
        for number in range(3):
            for place in [4, 5, 6]:
                self.assert_edge((2, number, place), 1, NoSize)

    def test_tank_rooms(self):
        for number in range(3):
            self.assert_edge((3, number, 4), 1, NoSize)

    def test_far(self):
        for number in range(3):
            self.assert_edge((4, number, 2), 1, NoSize)

    def test_no_names(self):
        paths = [(2, 0, 0), (2, 2, 0), (3, 0, 0), (3, 2, 0), (4, 0, 0), (4, 0, 1), (4, 2, 0), (4, 2, 1)]
        for path in paths:
            for thing in NO_NAMES:
                with self.subTest(path=path, thing=thing):
                    self.assert_refused(changed_ship((path, thing)), NoName)

    def test_names_alike(self):
        for part in [2, 3]:
            for earlier, later in [(0, 1), (1, 2), (0, 2)]:
                with self.subTest(part=part, earlier=earlier, later=later):
                    name = BUILT[part][earlier][0]
                    self.assert_refused(changed_ship(((part, later, 0), name)), NoName)

    def test_no_names_alike(self):
        for thing in [None, 1, [], ["a"]]:
            self.assert_refused(changed_ship(((2, 0, 0), thing), ((2, 1, 0), thing)), NoName)


class FirstFaultDecides(ShipCase):
    def test_each_fault_alone(self):
        for path, value, refusal in FAULTS:
            with self.subTest(path=path):
                self.assert_refused(changed_ship((path, value)), refusal)

    def test_each_two_faults(self):
        for number, (path, value, refusal) in enumerate(FAULTS):
            for later, thing, _ in FAULTS[number + 1:]:
                with self.subTest(path=path, later=later):
                    self.assert_refused(changed_ship((path, value), (later, thing)), refusal)

    def test_all_faults_from_one_on(self):
        for number, (_, _, refusal) in enumerate(FAULTS):
            with self.subTest(number=number):
                changes = [(path, value) for path, value, _ in FAULTS[number:]]
                self.assert_refused(changed_ship(*changes), refusal)

    def test_name_alike_comes_behind_the_sizes_of_the_earlier_one(self):
        for part, refusal in [(2, NoSize), (3, NoSize)]:
            name = BUILT[part][0][0]
            self.assert_refused(changed_ship(((part, 0, 4), 0), ((part, 1, 0), name)), refusal)
            self.assert_refused(changed_ship(((part, 1, 4), 0), ((part, 1, 0), name)), NoName)


class ApartBy(unittest.TestCase):
    def ship_with(self, *places):
        stacks = [[name, along, across, above, 1, 1, 1] for name, (along, across, above) in zip("abcdef", places)]
        return changed_ship(((2,), stacks))

    def test_both_differences(self):
        ship = self.ship_with((-3, 4, 0), (5, -6, 100), (5, 7, -100), (-9, -9, 0))
        wanted = {(0, 1): 18, (0, 2): 11, (0, 3): 19, (1, 2): 13, (1, 3): 17, (2, 3): 30}
        before = copy.deepcopy(ship)
        for (s, other), far in wanted.items():
            with self.subTest(s=s, other=other):
                self.assertEqual(apart_by(ship, s, other), far)
                self.assertEqual(apart_by(ship, other, s), far)
        self.assertEqual(ship, before)

    def test_one_difference_alone(self):
        ship = self.ship_with((0, 0, 0), (7, 0, 0), (0, -7, 0), (-7, 0, 0))
        self.assertEqual([apart_by(ship, 0, other) for other in range(4)], [0, 7, 7, 7])
        self.assertEqual([apart_by(ship, other, 0) for other in range(4)], [0, 7, 7, 7])

    def test_stack_and_itself(self):
        ship = self.ship_with((-3, 4, 1), (5, -6, 2))
        self.assertEqual(apart_by(ship, 0, 0), 0)
        self.assertEqual(apart_by(ship, 1, 1), 0)

    def test_height_counts_nothing(self):
        ship = self.ship_with((2, 2, -50), (2, 2, 50))
        self.assertEqual(apart_by(ship, 0, 1), 0)

    def test_far_off(self):
        ship = self.ship_with((-(10 ** 9), 10 ** 9, 0), (10 ** 9, -(10 ** 9), 0))
        self.assertEqual(apart_by(ship, 0, 1), 4 * 10 ** 9)


if __name__ == "__main__":
    unittest.main()
