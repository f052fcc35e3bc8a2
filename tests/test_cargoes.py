"""Points 9 and 10."""

import copy
import itertools
import unittest

from keel.cargoes import broken, right_cargo
from keel.errors import NoName, NoStack, NoWeight

NO_NAMES = [
    "", "abcdefghi", "A", "Fore", "a1", "1", "a b", " a", "a ", "a\n", "`", "{", "\u00e9",
    None, 0, 1, -5, True, False, [], ["a"], [["a"]], (), ("a",), (["a"],),
]

OWN = (100, 5, 0, 3)
BOUNDS = (-10, 10, -2, 2, 9, 1000)
SHIP = (
    OWN,
    BOUNDS,
    [("fore", -8, 1, 2, 3, 4, 50), ("mid", 0, 0, -2, 1, 2, 60), ("aft", 9, -1, 2, 3, 4, 70)],
    [("peak", 12, 0, 1, 20)],
    [("acid", "food", 5)],
)
BARE_SHIP = (OWN, BOUNDS, [], [], [])

BUILT = [
    [["one", 5, "rome", "acid", 9], ["two", 4, "oslo", "food", 3]],
    [],
    [["three", 7, "rome", "coal", 8], ["four", 6, "bern", "acid", 2], ["five", 1, "oslo", "food", 0]],
]

# What is put in, and the class that it is refused with, in the order of point 9.
FAULTS = [
    ((0, 0, 0), "", NoName),
    ((0, 0, 1), 0, NoWeight),
    ((0, 0, 2), None, NoName),
    ((0, 0, 3), 7, NoName),
    ((0, 0, 4), -1, NoWeight),
    ((0, 1, 0), "one", NoName),
    ((0, 1, 1), -3, NoWeight),
    ((0, 1, 2), ["oslo"], NoName),
    ((0, 1, 3), "Food", NoName),
    ((0, 1, 4), -7, NoWeight),
    ((2, 0, 0), "two", NoName),
    ((2, 0, 1), 0, NoWeight),
    ((2, 0, 2), True, NoName),
    ((2, 0, 3), ("coal",), NoName),
    ((2, 0, 4), -1, NoWeight),
    ((2, 1, 0), ["four"], NoName),
    ((2, 1, 1), 0, NoWeight),
    ((2, 1, 2), "", NoName),
    ((2, 1, 3), "", NoName),
    ((2, 1, 4), -1, NoWeight),
    ((2, 2, 0), "abcdefghi", NoName),
    ((2, 2, 1), 0, NoWeight),
    ((2, 2, 2), "os lo", NoName),
    ((2, 2, 3), [], NoName),
    ((2, 2, 4), -1, NoWeight),
]


def changed_cargo(*changes):
    """The cargo of BUILT with each (path, value) put in."""
    built = copy.deepcopy(BUILT)
    for (s, t, part), value in changes:
        built[s][t][part] = value
    return [[tuple(box) for box in boxes] for boxes in built]


class CargoCase(unittest.TestCase):
    def assert_right(self, ship, cargo):
        before = repr((ship, cargo))
        self.assertIs(right_cargo(ship, cargo), True)
        self.assertEqual(repr((ship, cargo)), before)

    def assert_refused(self, ship, cargo, refusal):
        before = repr((ship, cargo))
        with self.assertRaises(refusal) as caught:
            right_cargo(ship, cargo)
        self.assertIs(type(caught.exception), refusal)
        self.assertEqual(repr((ship, cargo)), before)


class RightCargoes(CargoCase):
    def test_ordinary(self):
        self.assert_right(SHIP, changed_cargo())

    def test_ship_without_stacks(self):
        self.assert_right(BARE_SHIP, [])

    def test_empty_stacks(self):
        self.assert_right(SHIP, [[], [], []])

    def test_asked_twice(self):
        cargo = changed_cargo()
        self.assert_right(SHIP, cargo)
        self.assert_right(SHIP, cargo)

    def test_edges_of_weight_and_bears(self):
        for (s, t) in [(0, 0), (0, 1), (2, 0), (2, 2)]:
            for weight, bears in [(1, 0), (1, 1), (2, 0), (10 ** 9, 10 ** 9)]:
                self.assert_right(SHIP, changed_cargo(((s, t, 1), weight), ((s, t, 4), bears)))

    def test_names_of_one_and_eight_letters(self):
        for part in [0, 2, 3]:
            for name in ["a", "z", "abcdefgh"]:
                self.assert_right(SHIP, changed_cargo(((2, 1, part), name)))

    def test_only_names_of_boxes_have_to_differ(self):
        ports = [((s, t, 2), "one") for s, t in [(0, 0), (0, 1), (2, 0), (2, 1), (2, 2)]]
        kinds = [((s, t, 3), "two") for s, t in [(0, 0), (0, 1), (2, 0), (2, 1), (2, 2)]]
        self.assert_right(SHIP, changed_cargo(*ports, *kinds))
        self.assert_right(SHIP, changed_cargo(((0, 0, 0), "fore"), ((0, 1, 0), "peak"), ((2, 0, 0), "rome")))

    def test_cargo_that_breaks_rules(self):
        boxes = [("b" + letter, 10 ** 9, "rome", "acid", 0) for letter in "abcdefghijklmnopqrstuvwx"]
        self.assert_right(SHIP, [boxes, [], []])
        self.assert_right(SHIP, [boxes[:8], boxes[8:16], boxes[16:]])


class RefusedCargoes(CargoCase):
    def test_too_few_and_too_many_lists(self):
        for count in [0, 1, 2, 4, 5, 9]:
            with self.subTest(count=count):
                self.assert_refused(SHIP, [[] for _ in range(count)], NoStack)
        self.assert_refused(BARE_SHIP, [[]], NoStack)
        self.assert_refused(BARE_SHIP, changed_cargo(), NoStack)
        self.assert_refused(SHIP, changed_cargo()[:2], NoStack)
        self.assert_refused(SHIP, changed_cargo() + [[]], NoStack)

    def test_lists_are_counted_ahead_of_all(self):
        for path, value, _ in FAULTS[:5]:
            self.assert_refused(SHIP, changed_cargo((path, value))[:2], NoStack)
            self.assert_refused(SHIP, changed_cargo((path, value)) + [[]], NoStack)

    def test_weights(self):
        for s, t in [(0, 0), (0, 1), (2, 0), (2, 1), (2, 2)]:
            self.assert_right(SHIP, changed_cargo(((s, t, 1), 1)))
            for weight in [0, -1, -(10 ** 9)]:
                self.assert_refused(SHIP, changed_cargo(((s, t, 1), weight)), NoWeight)

    def test_bears(self):
        for s, t in [(0, 0), (0, 1), (2, 0), (2, 1), (2, 2)]:
            self.assert_right(SHIP, changed_cargo(((s, t, 4), 0)))
            for bears in [-1, -2, -(10 ** 9)]:
                self.assert_refused(SHIP, changed_cargo(((s, t, 4), bears)), NoWeight)

    def test_no_names(self):
        for s, t in [(0, 0), (0, 1), (2, 0), (2, 2)]:
            for part in [0, 2, 3]:
                for thing in NO_NAMES:
                    with self.subTest(s=s, t=t, part=part, thing=thing):
                        self.assert_refused(SHIP, changed_cargo(((s, t, part), thing)), NoName)

    def test_names_alike(self):
        places = [(0, 0), (0, 1), (2, 0), (2, 1), (2, 2)]
        for (s, t), (other, u) in itertools.combinations(places, 2):
            with self.subTest(s=s, t=t, other=other, u=u):
                self.assert_refused(SHIP, changed_cargo(((other, u, 0), BUILT[s][t][0])), NoName)

    def test_no_names_alike(self):
        for thing in [None, 1, True, [], ["a"]]:
            self.assert_refused(SHIP, changed_cargo(((0, 0, 0), thing), ((2, 0, 0), thing)), NoName)

    def test_name_alike_is_found_at_the_later_box(self):
        # The earlier box's other things are looked at ahead of the later box's name.
        alike = ((2, 1, 0), "one")
        self.assert_refused(SHIP, changed_cargo(alike, ((0, 0, 1), 0)), NoWeight)
        self.assert_refused(SHIP, changed_cargo(alike, ((2, 0, 4), -1)), NoWeight)
        self.assert_refused(SHIP, changed_cargo(alike, ((2, 1, 1), 0)), NoName)
        self.assert_refused(SHIP, changed_cargo(alike, ((2, 2, 1), 0)), NoName)

    def test_refused_again_and_then_right(self):
        cargo = changed_cargo(((0, 0, 1), 0))
        self.assert_refused(SHIP, cargo, NoWeight)
        self.assert_refused(SHIP, cargo, NoWeight)
        self.assert_right(SHIP, changed_cargo())


class FirstFaultDecides(CargoCase):
    def test_each_fault_alone(self):
        for path, value, refusal in FAULTS:
            with self.subTest(path=path):
                self.assert_refused(SHIP, changed_cargo((path, value)), refusal)

    def test_each_two_faults(self):
        for (path, value, refusal), (later, thing, _) in itertools.combinations(FAULTS, 2):
            with self.subTest(path=path, later=later):
                self.assert_refused(SHIP, changed_cargo((path, value), (later, thing)), refusal)

    def test_all_faults_from_one_on(self):
        for number, (_, _, refusal) in enumerate(FAULTS):
            with self.subTest(number=number):
                changes = [(path, value) for path, value, _ in FAULTS[number:]]
                self.assert_refused(SHIP, changed_cargo(*changes), refusal)


def ship_with(stacks, apart=()):
    """A ship of stacks (along, across, tall, high, most) and rows of kinds apart."""
    named = [
        (name, along, across, 2, tall, high, most)
        for name, (along, across, tall, high, most) in zip("abcdef", stacks)
    ]
    return (OWN, BOUNDS, named, [], list(apart))


def wide_ship(count, apart=()):
    """Stacks that may have all, ten apart from their neighbours."""
    return ship_with([(10 * number, 0, 1, 100, 10 ** 9) for number in range(count)], apart)


def cargo_with(*stacks):
    """Boxes (weight, kind, bears), named in their order."""
    names = iter("abcdefghijklmnopqrstuvwxyz")
    return [[(next(names), weight, "rome", kind, bears) for weight, kind, bears in boxes] for boxes in stacks]


def of_kinds(*stacks):
    return cargo_with(*[[(1, kind, 1000) for kind in kinds] for kinds in stacks])


class BrokenCase(unittest.TestCase):
    def assert_broken(self, ship, cargo, wanted):
        before = repr((ship, cargo))
        told = broken(ship, cargo)
        self.assertIs(type(told), list)
        self.assertEqual([type(rule) for rule in told], [tuple for _ in told])
        self.assertEqual(told, wanted)
        self.assertEqual(repr((ship, cargo)), before)


class BrokenInStacks(BrokenCase):
    def test_none_broken(self):
        self.assert_broken(BARE_SHIP, [], [])
        self.assert_broken(SHIP, [[], [], []], [])
        self.assert_broken(SHIP, [[("one", 5, "rome", "acid", 4), ("two", 4, "oslo", "coal", 0)], [], []], [])

    def test_high(self):
        for high in [1, 2, 3]:
            ship = ship_with([(0, 0, 1, high, 1000), (9, 0, 1, 100, 1000)])
            for count in range(6):
                with self.subTest(high=high, count=count):
                    cargo = cargo_with([(1, "coal", 100)] * count, [(1, "coal", 100)] * 5)
                    self.assert_broken(ship, cargo, [("high", 0)] if count > high else [])

    def test_most(self):
        ship = ship_with([(0, 0, 1, 9, 1000), (5, 0, 1, 9, 30)])
        for top in [9, 10, 11, 12, 900]:
            with self.subTest(top=top):
                cargo = cargo_with([(40, "coal", 0)], [(10, "coal", 1000), (10, "coal", 1000), (top, "coal", 0)])
                self.assert_broken(ship, cargo, [("most", 1)] if top > 10 else [])

    def test_most_of_one_box(self):
        ship = ship_with([(0, 0, 1, 9, 30)])
        self.assert_broken(ship, cargo_with([(30, "coal", 0)]), [])
        self.assert_broken(ship, cargo_with([(31, "coal", 0)]), [("most", 0)])

    def test_bears_counts_all_above_and_not_itself(self):
        ship = wide_ship(1)
        for bears, wanted in [(12, []), (11, [("bears", 0, 0)]), (0, [("bears", 0, 0)])]:
            cargo = cargo_with([(50, "coal", bears), (7, "coal", 100), (4, "coal", 100), (1, "coal", 0)])
            self.assert_broken(ship, cargo, wanted)
        for bears, wanted in [(5, []), (4, [("bears", 0, 1)])]:
            cargo = cargo_with([(50, "coal", 100), (7, "coal", bears), (4, "coal", 100), (1, "coal", 0)])
            self.assert_broken(ship, cargo, wanted)

    def test_top_box_may_bear_nothing(self):
        self.assert_broken(wide_ship(1), cargo_with([(50, "coal", 0)]), [])
        self.assert_broken(wide_ship(1), cargo_with([(50, "coal", 1), (1, "coal", 0)]), [])
        self.assert_broken(wide_ship(1), cargo_with([(50, "coal", 0), (1, "coal", 0)]), [("bears", 0, 0)])

    def test_several_bears_from_below(self):
        cargo = cargo_with([(1, "coal", 2), (2, "coal", 9), (3, "coal", 3), (4, "coal", 0)])
        self.assert_broken(wide_ship(1), cargo, [("bears", 0, 0), ("bears", 0, 2)])
        cargo = cargo_with([(1, "coal", 0), (2, "coal", 0), (3, "coal", 0), (4, "coal", 0)])
        self.assert_broken(wide_ship(1), cargo, [("bears", 0, 0), ("bears", 0, 1), ("bears", 0, 2)])

    def test_another_stack_stands_on_nothing_here(self):
        cargo = cargo_with([(5, "coal", 0)], [(9, "coal", 0)])
        self.assert_broken(wide_ship(2), cargo, [])

    def test_all_three_in_more_stacks_in_order(self):
        ship = ship_with([(0, 0, 1, 1, 9), (5, 0, 1, 5, 90), (9, 0, 1, 2, 5), (11, 0, 1, 1, 50)])
        cargo = cargo_with(
            [(5, "coal", 4), (5, "coal", 0)],
            [(50, "coal", 0)],
            [(2, "coal", 1), (2, "coal", 2), (2, "coal", 0)],
            [(2, "coal", 1), (1, "coal", 0)],
        )
        self.assert_broken(ship, cargo, [
            ("high", 0), ("most", 0), ("bears", 0, 0),
            ("high", 2), ("most", 2), ("bears", 2, 0),
            ("high", 3),
        ])

    def test_each_stack_by_its_own_bounds(self):
        ship = ship_with([(0, 0, 1, 1, 10), (5, 0, 1, 2, 20), (9, 0, 1, 3, 30)])
        two = [(11, "coal", 11), (10, "coal", 0)]
        self.assert_broken(ship, cargo_with(two, two, two), [("high", 0), ("most", 0), ("most", 1)])


class BrokenApart(BrokenCase):
    def test_in_one_stack(self):
        ship = wide_ship(1, [("acid", "food", 1)])
        self.assert_broken(ship, of_kinds(["acid", "food"]), [("apart", 0, 0, 0, 1)])
        self.assert_broken(ship, of_kinds(["food", "acid"]), [("apart", 0, 0, 0, 1)])
        self.assert_broken(ship, of_kinds(["acid", "acid"]), [])
        self.assert_broken(ship, of_kinds(["food", "food"]), [])
        self.assert_broken(ship, of_kinds(["acid", "coal", "food"]), [("apart", 0, 0, 0, 2)])

    def test_in_two_stacks_far_just_met_and_just_missed(self):
        for far, wanted in [(9, []), (10, []), (11, [("apart", 0, 0, 1, 0)]), (10 ** 9, [("apart", 0, 0, 1, 0)])]:
            for row in [("acid", "food", far), ("food", "acid", far)]:
                for kinds in [(["acid"], ["food"]), (["food"], ["acid"])]:
                    with self.subTest(row=row, kinds=kinds):
                        self.assert_broken(wide_ship(2, [row]), of_kinds(*kinds), wanted)

    def test_both_differences_count(self):
        for far, wanted in [(7, []), (8, [("apart", 0, 0, 1, 0)])]:
            for along, across in [(3, 4), (-3, 4), (3, -4), (-3, -4), (0, 7), (-7, 0)]:
                ship = ship_with([(1, 1, 1, 9, 99), (1 + along, 1 + across, 1, 9, 99)], [("acid", "food", far)])
                self.assert_broken(ship, of_kinds(["acid"], ["food"]), wanted)

    def test_height_does_not_part(self):
        ship = (OWN, BOUNDS, [("a", 0, 0, 0, 1, 9, 99), ("b", 0, 0, 500, 1, 9, 99)], [], [("acid", "food", 1)])
        self.assert_broken(ship, of_kinds(["acid"], ["food"]), [("apart", 0, 0, 1, 0)])

    def test_kinds_alike(self):
        for far, wanted in [(10, []), (11, [("apart", 0, 0, 1, 0)])]:
            ship = wide_ship(2, [("acid", "acid", far)])
            self.assert_broken(ship, of_kinds(["acid"], ["acid"]), wanted)
            self.assert_broken(ship, of_kinds(["acid"], ["food"]), [])
            self.assert_broken(ship, of_kinds(["food"], ["acid"]), [])
        self.assert_broken(wide_ship(1, [("acid", "acid", 1)]), of_kinds(["acid"]), [])
        self.assert_broken(wide_ship(1, [("acid", "acid", 1)]), of_kinds(["acid"] * 3), [
            ("apart", 0, 0, 0, 1), ("apart", 0, 0, 0, 2), ("apart", 0, 1, 0, 2),
        ])

    def test_other_kinds_and_other_parts_of_a_box(self):
        ship = wide_ship(2, [("acid", "food", 50)])
        self.assert_broken(ship, of_kinds(["acid", "coal"], ["coal", "acid"]), [])
        cargo = [[("acid", 1, "acid", "coal", 50)], [("food", 1, "food", "coal", 50)]]
        self.assert_broken(ship, cargo, [])

    def test_more_rows_for_the_same_kinds(self):
        near, far = ("acid", "food", 3), ("food", "acid", 11)
        for rows in [[near, far], [far, near], [far, far], [far, ("acid", "food", 20)], [near, far, near, far]]:
            self.assert_broken(wide_ship(2, rows), of_kinds(["acid"], ["food"]), [("apart", 0, 0, 1, 0)])
            self.assert_broken(wide_ship(1, rows), of_kinds(["food", "acid"]), [("apart", 0, 0, 0, 1)])
        for rows in [[near, near], [near, ("food", "acid", 10)]]:
            self.assert_broken(wide_ship(2, rows), of_kinds(["acid"], ["food"]), [])

    def test_each_row_for_its_kinds(self):
        rows = [("acid", "food", 11), ("coal", "fire", 21), ("acid", "acid", 11), ("fire", "food", 1)]
        ship = wide_ship(3, rows)
        cargo = of_kinds(["acid", "coal"], ["food", "acid"], ["fire", "food"])
        self.assert_broken(ship, cargo, [
            ("apart", 0, 0, 1, 0), ("apart", 0, 0, 1, 1), ("apart", 0, 1, 2, 0),
            ("apart", 1, 0, 1, 1), ("apart", 1, 1, 2, 1), ("apart", 2, 0, 2, 1),
        ])

    def test_order(self):
        ship = wide_ship(3, [("acid", "food", 100)])
        cargo = of_kinds(["acid", "food"], [], ["food", "acid", "food"])
        self.assert_broken(ship, cargo, [
            ("apart", 0, 0, 0, 1), ("apart", 0, 0, 2, 0), ("apart", 0, 0, 2, 2), ("apart", 0, 1, 2, 1),
            ("apart", 2, 0, 2, 1), ("apart", 2, 1, 2, 2),
        ])

    def test_apart_comes_behind_all_stacks(self):
        ship = ship_with([(0, 0, 1, 1, 1), (3, 0, 1, 1, 1)], [("acid", "food", 9)])
        cargo = cargo_with([(1, "acid", 0), (1, "food", 0)], [(1, "food", 0), (1, "coal", 0)])
        self.assert_broken(ship, cargo, [
            ("high", 0), ("most", 0), ("bears", 0, 0), ("high", 1), ("most", 1), ("bears", 1, 0),
            ("apart", 0, 0, 0, 1), ("apart", 0, 0, 1, 0),
        ])


def counted_broken(ship, cargo):
    """Point 10 word for word, another way round: all rules, then put in order."""
    rules = []
    for s, boxes in enumerate(cargo):
        high, most = ship[2][s][5:]
        if len(boxes) > high:
            rules.append(("high", s))
        if sum(box[1] for box in boxes) > most:
            rules.append(("most", s))
        for t, box in enumerate(boxes):
            if sum(upper[1] for upper in boxes[t + 1:]) > box[4]:
                rules.append(("bears", s, t))
    places = [(s, t) for s, boxes in enumerate(cargo) for t in range(len(boxes))]
    pairs = set()
    for kind, other_kind, far in ship[4]:
        for (s, t), (other, u) in itertools.product(places, places):
            stack, second = ship[2][s], ship[2][other]
            gap = abs(stack[1] - second[1]) + abs(stack[2] - second[2])
            if (s, t) < (other, u) and gap < far:
                if sorted([cargo[s][t][3], cargo[other][u][3]]) == sorted([kind, other_kind]):
                    pairs.add(("apart", s, t, other, u))
    return rules + sorted(pairs)


class BrokenByCount(BrokenCase):
    def test_many_cargoes(self):
        state = 12345

        def drawn(low, high):
            nonlocal state
            state = (state * 1103515245 + 12345) % 2 ** 31
            return low + (state >> 8) % (high - low + 1)

        kinds = ["acid", "food", "coal"]
        for number in range(150):
            stacks = [
                (drawn(-3, 3), drawn(-3, 3), 1, drawn(1, 4), drawn(1, 12)) for _ in range(drawn(1, 6))
            ]
            rows = [(kinds[drawn(0, 2)], kinds[drawn(0, 2)], drawn(1, 9)) for _ in range(drawn(0, 4))]
            ship = ship_with(stacks, rows)
            cargo = cargo_with(*[
                [(drawn(1, 4), kinds[drawn(0, 2)], drawn(0, 8)) for _ in range(drawn(0, 4))] for _ in stacks
            ])
            with self.subTest(number=number):
                self.assert_broken(ship, cargo, counted_broken(ship, cargo))


class ToldIsTheAskersOwn(unittest.TestCase):
    def test_broken_told_anew(self):
        ship = wide_ship(1, [("acid", "food", 1)])
        cargo = of_kinds(["acid", "food"])
        told = broken(ship, cargo)
        told.append("something")
        self.assertEqual(broken(ship, cargo), [("apart", 0, 0, 0, 1)])
        empty = broken(ship, [[]])
        empty.append("something")
        self.assertEqual(broken(ship, [[]]), [])

    def test_told_stays_as_it_was(self):
        ship = wide_ship(1, [("acid", "food", 1)])
        cargo = of_kinds(["acid", "food"])
        told = broken(ship, cargo)
        cargo[0].clear()
        ship[4].clear()
        self.assertEqual(told, [("apart", 0, 0, 0, 1)])


if __name__ == "__main__":
    unittest.main()
