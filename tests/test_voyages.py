"""Point 24."""

import copy
import unittest

from keel.ballast import ballast
from keel.calls import called
from keel.cargoes import broken
from keel.checks import mix_shows, prices_show, right_fills
from keel.errors import KeelError, NoName, NoStack, NoWeight
from keel.voyages import voyage
from keel.weights import rows_of

WIDE = (-1000, 1000, -1000, 1000, 1000, 10 ** 9)
STACKS = [("fore", -8, 0, 1, 2, 3, 900), ("mid", 0, 0, 1, 2, 3, 900), ("aft", 8, 0, 1, 2, 3, 900)]
EASY = ((100, 0, 0, 0), WIDE, STACKS, [], [])
TANKS = [("bow", -10, 0, 0, 20), ("stern", 10, 0, 0, 20)]
LEVEL = ((100, 0, 0, 0), (0, 0, 0, 0, 9, 999), STACKS, TANKS, [])
EMPTY = [[], [], []]


def box_of(name, port="rome", weight=5, kind="coal", bears=900):
    return (name, weight, port, kind, bears)


A, B, C, D = [box_of(name, port) for name, port in [("a", "rome"), ("b", "oslo"), ("c", "oslo"), ("d", "bern")]]

# Each of these is refused by a class, whatever the cargo is.
WRONG_CALLS = [
    ((None, []), NoName),
    (("Rome", []), NoName),
    (("rome", [(box_of("x"), 3)]), NoStack),
    (("rome", [(box_of("x"), -1)]), NoStack),
    (("rome", [(box_of("X"), 0)]), NoName),
    (("rome", [(box_of("x", weight=0), 0)]), NoWeight),
    (("rome", [(box_of("x", []), 0)]), NoName),
    (("rome", [(box_of("x", kind=""), 0)]), NoName),
    (("rome", [(box_of("x", bears=-1), 0)]), NoWeight),
    (("rome", [(box_of("x"), 0), (box_of("x"), 1)]), NoName),
]


class Voyage(unittest.TestCase):
    def told_of(self, ship, cargo, calls):
        before = repr((ship, cargo, calls))
        told = voyage(ship, cargo, calls)
        self.assertEqual(repr((ship, cargo, calls)), before)
        self.assertIs(type(told), list)
        self.assertLessEqual(len(told), len(calls))
        for number, outcome in enumerate(told):
            self.assertIs(type(outcome), tuple)
            self.assert_outcome(ship, cargo, calls[number], outcome)
            if outcome[0] == "refused":
                self.assertEqual(number, len(told) - 1)
            else:
                cargo = outcome[1]
        if not told or told[-1][0] == "done":
            self.assertEqual(len(told), len(calls))
        return told

    def assert_outcome(self, ship, cargo, call, outcome):
        """It is what one call tells, but for which fills or mix are told where any will do."""
        wanted = called(ship, cargo, call)
        self.assertEqual(outcome[0], wanted[0])
        if outcome[0] == "done":
            self.assertEqual((outcome[1], outcome[3]), (wanted[1], wanted[3]))
            self.assertEqual([step for step, fills in outcome[2]], [step for step, fills in wanted[2]])
            self.assert_last_fills(ship, outcome)
        else:
            self.assertEqual((outcome[1], outcome[2][0]), (wanted[1], wanted[2][0]))
            if outcome[2][0] == "broken":
                self.assertEqual(outcome[2], wanted[2])

    def assert_last_fills(self, ship, outcome):
        if outcome[2]:
            rows, rooms = rows_of(ship, outcome[1]), [tank[4] for tank in ship[3]]
            fills = outcome[2][-1][1]
            self.assertTrue(right_fills(rows, rooms, fills))
            self.assertTrue(prices_show(rows, rooms, fills, ballast(ship, outcome[1])[2]))

    def test_no_calls(self):
        for ship, cargo in [(EASY, EMPTY), (EASY, [[A], [B], []]), (LEVEL, [[A], [], []]),
                            (((100, 0, 0, 0), WIDE, [], [], []), [])]:
            self.assertEqual(self.told_of(ship, cargo, []), [])

    def test_no_calls_though_a_rule_is_broken(self):
        cargo = [[A, B, C, D], [], []]
        self.assertNotEqual(broken(EASY, cargo), [])
        self.assertEqual(self.told_of(EASY, cargo, []), [])

    def test_one_call(self):
        told = self.told_of(EASY, [[A, B], [], []], [("rome", [(D, 1)])])
        self.assertEqual(told, [
            ("done", [[B], [D], []],
             [(("off", 0, "b"), []), (("off", 0, "a"), []), (("back", 0, "b"), []), (("on", 1, "d"), [])], ["b"]),
        ])

    def test_each_call_begins_with_the_cargo_of_the_one_ahead(self):
        calls = [("rome", [(C, 0)]), ("oslo", [(D, 0), (box_of("e", "oslo"), 2)]), ("bern", []), ("oslo", [])]
        told = self.told_of(EASY, [[A, B], [], []], calls)
        self.assertEqual([outcome[0] for outcome in told], ["done"] * 4)
        self.assertEqual([outcome[1] for outcome in told], [
            [[B, C], [], []], [[D], [], [box_of("e", "oslo")]], [[], [], [box_of("e", "oslo")]], EMPTY,
        ])
        self.assertEqual([outcome[3] for outcome in told], [["b"], [], [], []])

    def test_the_same_port_again(self):
        # What was loaded for the port itself goes out when it is come to again.
        told = self.told_of(EASY, EMPTY, [("rome", [(A, 0)]), ("rome", []), ("rome", [(A, 1)]), ("rome", [])])
        self.assertEqual([outcome[1] for outcome in told], [[[A], [], []], EMPTY, [[], [A], []], EMPTY])

    def test_fills_along_the_way(self):
        calls = [("oslo", [(A, 0)]), ("oslo", [(D, 2)]), ("rome", []), ("bern", [])]
        told = self.told_of(LEVEL, EMPTY, calls)
        dry, four = (0, 1), (4, 1)
        self.assertEqual([outcome[2][0][1] for outcome in told], [[dry, four], [dry, dry], [four, dry], [dry, dry]])

    def test_calls_without_steps(self):
        told = self.told_of(EASY, [[B], [], []], [("rome", []), ("bern", []), ("rome", [])])
        self.assertEqual(told, [("done", [[B], [], []], [], [])] * 3)

    def test_calls_without_steps_though_a_rule_is_broken(self):
        cargo = [[B, C, D, box_of("e", "oslo")], [], []]
        told = self.told_of(EASY, cargo, [("rome", []), ("rome", []), ("bern", []), ("oslo", [])])
        self.assertEqual(told[:2], [("done", cargo, [], [])] * 2)
        self.assertEqual([outcome[0] for outcome in told], ["done"] * 4)

    def test_the_first_refused_call_is_the_last_one_told(self):
        full = [box_of(name, "oslo") for name in "wxyz"]
        calls = [("rome", []), ("bern", [(box, 1) for box in full]), ("oslo", []), ("rome", [])]
        told = self.told_of(EASY, [[A], [], []], calls)
        self.assertEqual(told[0][:2], ("done", EMPTY))
        self.assertEqual(told[1], ("refused", 3, ("broken", [("high", 1)])))
        self.assertEqual(len(told), 2)

    def test_the_first_call_is_refused(self):
        told = self.told_of(EASY, [[B, C, D, A], [], []], [("rome", [(box_of("e"), 0)]), ("oslo", [])])
        self.assertEqual(told, [("refused", 1, ("broken", [("high", 0)]))])

    def test_refused_for_want_of_fills(self):
        heavy = box_of("e", "oslo", 26)
        told = self.told_of(LEVEL, EMPTY, [("rome", [(A, 0)]), ("rome", [(heavy, 2)]), ("oslo", [])])
        self.assertEqual((len(told), told[0][0]), (2, "done"))
        self.assertEqual((told[1][0], told[1][1], told[1][2][0]), ("refused", 1, "none"))
        rows, rooms = rows_of(LEVEL, [[], [], [heavy]]), [20, 20]
        self.assertTrue(mix_shows(rows, rooms, told[1][2][1]))

    def assert_refusal(self, ship, cargo, calls, refusal):
        before = repr((ship, cargo, calls))
        with self.assertRaises(KeelError) as caught:
            voyage(ship, cargo, calls)
        self.assertIs(type(caught.exception), refusal)
        self.assertEqual(repr((ship, cargo, calls)), before)

    def test_a_call_is_refused_by_a_class_when_it_is_come_to(self):
        ahead = [("rome", [(D, 1)]), ("oslo", []), ("bern", [])]
        for call, refusal in WRONG_CALLS:
            for number in range(4):
                with self.subTest(call=call, number=number):
                    self.assert_refusal(EASY, [[A, B], [], []], ahead[:number] + [call] + ahead[number:], refusal)

    def test_names_are_looked_at_in_the_cargo_that_is_come_to(self):
        again = ("bern", [(A, 1)])
        self.assert_refusal(EASY, [[A], [], []], [again], NoName)
        self.assert_refusal(EASY, EMPTY, [("oslo", [(A, 0)]), again], NoName)
        self.assert_refusal(EASY, [[A], [], []], [("oslo", []), again], NoName)
        # It has gone out, so that its name is free.
        told = self.told_of(EASY, [[A], [], []], [("rome", []), again])
        self.assertEqual(told[1][1], [[], [A], []])

    def test_calls_behind_a_refused_one_are_not_looked_at(self):
        refused = ("bern", [(box_of(name, "oslo"), 1) for name in "wxyz"])
        for call, refusal in WRONG_CALLS:
            told = self.told_of(EASY, [[A], [], []], [("rome", []), refused, call])
            self.assertEqual(told[1], ("refused", 3, ("broken", [("high", 1)])))
            told = self.told_of(EASY, [[A], [], []], [refused, call, call])
            self.assertEqual(len(told), 1)
            self.assert_refusal(EASY, [[A], [], []], [call, refused], refusal)

    def test_thirty_calls(self):
        names = [first + second for first in "abcdef" for second in "vwxyz"]
        calls = [("oslo" if number % 2 else "rome", [(box_of(name, "rome" if number % 2 else "oslo"), number % 3)])
                 for number, name in enumerate(names)]
        told = self.told_of(LEVEL, EMPTY, calls)
        self.assertEqual([outcome[0] for outcome in told], ["done"] * 30)
        self.assertEqual(told[-1][1], [[], [], [calls[-1][1][0][0]]])

    def test_told_is_the_askers_own(self):
        cargo = [[A, B], [], []]
        calls = [("rome", [(C, 0)]), ("bern", []), ("bern", []), ("oslo", [(D, 1)])]
        told = voyage(LEVEL, cargo, calls)
        wanted = copy.deepcopy(told)
        cargoes = [cargo] + [outcome[1] for outcome in told]
        lists = [one for each in cargoes for one in [each] + each]
        for number, one in enumerate(lists):
            for other in lists[number + 1:]:
                self.assertIsNot(one, other)
        for stack in told[0][1]:
            stack.append("something")
        told[0][2].clear()
        told[0][3].clear()
        self.assertEqual(told[1:], wanted[1:])
        cargo[0].clear()
        calls[3][1].clear()
        calls.clear()
        self.assertEqual(told[1:], wanted[1:])


if __name__ == "__main__":
    unittest.main()
