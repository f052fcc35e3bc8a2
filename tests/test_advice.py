"""Points 25, 26 and 27."""

import copy
import itertools
import unittest
from fractions import Fraction

from keel.advice import overstanding, stack_for, stowed
from keel.ballast import ballast
from keel.cargoes import broken
from keel.errors import KeelError, NoName, NoStack, NoWeight

NO_NAMES = [
    "", "abcdefghi", "A", "Rome", "a1", "1", "a b", " a", "a ", "a\n", "`", "{", "\u00e9",
    None, 0, 1, -5, True, False, [], ["a"], [["a"]], (), ("a",), (["a"],),
]

WIDE = (-1000, 1000, -1000, 1000, 1000, 10 ** 9)
STACKS = [("fore", -8, 0, 1, 2, 3, 900), ("mid", 0, 0, 1, 2, 3, 900), ("aft", 8, 0, 1, 2, 3, 900)]
EASY = ((100, 0, 0, 0), WIDE, STACKS, [], [])
BARE = ((100, 0, 0, 0), WIDE, [], [], [])
TANKS = [("bow", -10, 0, 0, 20), ("stern", 10, 0, 0, 20)]
LEVEL = ((100, 0, 0, 0), (0, 0, 0, 0, 9, 999), STACKS, TANKS, [])
EMPTY = [[], [], []]
PORTS = ["rome", "oslo", "bern"]


def box_of(name, port="rome", weight=5, kind="coal", bears=900):
    return (name, weight, port, kind, bears)


def counted(boxes, port, ports):
    """Of how many boxes the port comes ahead, told in another way."""
    earlier = 0
    for box in boxes:
        for come in ports:
            if come == port:
                break
            if come == box[2]:
                earlier += 1
                break
    return earlier


class Overstanding(unittest.TestCase):
    def assert_told(self, ports_there, port, ports, wanted):
        boxes = [box_of(name, there) for name, there in zip("abcdefgh", ports_there)]
        decoy = [box_of(name, "rome") for name in "uvwxyz"]
        for s in range(3):
            cargo = [decoy[:2], decoy[2:4], decoy[4:]]
            cargo[s] = boxes
            box = box_of("new", port)
            before = repr((cargo, box, ports))
            told = overstanding(cargo, s, box, ports)
            self.assertIs(type(told), int)
            self.assertEqual(told, wanted)
            self.assertEqual(repr((cargo, box, ports)), before)

    def test_empty_stack(self):
        for port in ["rome", "bern", "kiel"]:
            self.assert_told([], port, PORTS, 0)
            self.assert_told([], port, [], 0)

    def test_earlier_later_and_alike(self):
        self.assert_told(["rome"], "oslo", PORTS, 1)
        self.assert_told(["rome"], "rome", PORTS, 0)
        self.assert_told(["oslo"], "rome", PORTS, 0)
        self.assert_told(["rome", "oslo", "bern", "rome"], "bern", PORTS, 3)
        self.assert_told(["rome", "oslo", "bern", "rome"], "oslo", PORTS, 2)
        self.assert_told(["rome", "oslo", "bern", "rome"], "rome", PORTS, 0)

    def test_each_box_counts_wherever_it_stands(self):
        for places in itertools.permutations(["rome", "rome", "oslo", "bern", "kiel"]):
            self.assert_told(places, "bern", PORTS, 3)

    def test_ports_not_in_the_list(self):
        # They come behind all that are, and of two such none comes ahead.
        self.assert_told(["rome", "oslo", "bern"], "kiel", PORTS, 3)
        self.assert_told(["kiel"], "bern", PORTS, 0)
        self.assert_told(["kiel"], "kiel", PORTS, 0)
        self.assert_told(["kiel", "riga"], "kiel", PORTS, 0)
        self.assert_told(["kiel", "riga"], "riga", PORTS, 0)

    def test_empty_list(self):
        for port in ["rome", "kiel"]:
            self.assert_told(["rome", "oslo", "kiel", "rome"], port, [], 0)

    def test_ports_twice_count_at_their_first_place(self):
        ports = ["rome", "oslo", "rome", "bern", "oslo"]
        self.assert_told(["rome"], "oslo", ports, 1)
        self.assert_told(["oslo"], "rome", ports, 0)
        self.assert_told(["oslo"], "bern", ports, 1)
        self.assert_told(["bern"], "oslo", ports, 0)
        self.assert_told(["bern"], "rome", ports, 0)
        self.assert_told(["rome", "oslo", "bern"], "kiel", ports, 3)
        self.assert_told(["oslo", "rome"], "kiel", ["rome", "rome", "rome"], 1)

    def test_all_short_lists(self):
        names = ["rome", "oslo", "kiel"]
        for length in range(5):
            for ports in itertools.product(names, repeat=length):
                for there in itertools.product(names, repeat=2):
                    for port in names:
                        boxes = [box_of("a", there[0]), box_of("b", there[1])]
                        told = overstanding([boxes], 0, box_of("new", port), list(ports))
                        self.assertEqual(told, counted(boxes, port, ports))

    def test_sixty_ports(self):
        ports = [first + second for first in "abcdefghij" for second in "uvwxyz"]
        self.assert_told([ports[58], ports[0], ports[59], ports[58]], ports[59], ports, 3)
        self.assert_told([ports[58], ports[0], ports[59], ports[58]], "none", ports, 4)


class StackCase(unittest.TestCase):
    def assert_stack(self, ship, cargo, box, ports, wanted):
        before = repr((ship, cargo, box, ports))
        told = stack_for(ship, cargo, box, ports)
        self.assertIs(type(told), int)
        self.assertEqual(told, wanted)
        self.assertEqual(repr((ship, cargo, box, ports)), before)

    def assert_refusal(self, ship, cargo, box, ports, refusal):
        before = repr((ship, cargo, box, ports))
        with self.assertRaises(KeelError) as caught:
            stack_for(ship, cargo, box, ports)
        self.assertIs(type(caught.exception), refusal)
        self.assertEqual(repr((ship, cargo, box, ports)), before)


class StackFor(StackCase):
    def test_the_first_of_several_alike(self):
        self.assert_stack(EASY, EMPTY, box_of("new"), [], 0)
        self.assert_stack(EASY, EMPTY, box_of("new"), PORTS, 0)
        self.assert_stack(EASY, [[box_of("a")], [], []], box_of("new"), PORTS, 0)
        # At 8 and at -8 alike.
        ship = LEVEL[:2] + ([STACKS[0], STACKS[2]],) + LEVEL[3:]
        self.assert_stack(ship, [[], []], box_of("new"), PORTS, 0)
        ship = LEVEL[:2] + ([STACKS[2], STACKS[0]],) + LEVEL[3:]
        self.assert_stack(ship, [[], []], box_of("new"), PORTS, 0)

    def test_fewest_overstanding(self):
        new = box_of("new", "oslo")
        self.assert_stack(EASY, [[box_of("a")], [], []], new, PORTS, 1)
        self.assert_stack(EASY, [[box_of("a")], [box_of("b")], []], new, PORTS, 2)
        self.assert_stack(EASY, [[box_of("a"), box_of("b")], [box_of("c")], [box_of("d")]], new, PORTS, 1)
        self.assert_stack(EASY, [[box_of("a"), box_of("b")], [box_of("c")], [box_of("d", "bern")]], new, PORTS, 2)
        self.assert_stack(EASY, [[box_of("a")], [], []], new, [], 0)
        self.assert_stack(EASY, [[box_of("a")], [], []], new, ["oslo", "rome"], 0)
        self.assert_stack(EASY, [[box_of("a")], [], []], new, ["oslo", "rome", "oslo"], 0)

    def test_least_sum(self):
        new = box_of("new", "oslo")
        self.assert_stack(LEVEL, EMPTY, new, PORTS, 1)
        self.assert_stack(LEVEL, [[box_of("a")], [], []], new, [], 2)
        self.assert_stack(LEVEL, [[], [], [box_of("a")]], new, [], 0)
        self.assert_stack(LEVEL, [[], [], [box_of("a", weight=2)]], new, [], 1)
        self.assert_stack(LEVEL, [[], [], [box_of("a", weight=3)]], new, [], 0)

    def test_least_sum_by_fractions(self):
        # At 3 along it takes 15/7 of the one tank, at -2 along 10/6 of the other one; at 7 and at -6 5 of either.
        for along, other, wanted in [(3, -2, 1), (-2, 3, 0), (3, -3, 0), (-3, 3, 1), (5, -4, 1), (-4, 5, 0),
                                     (7, -6, 0), (-6, 7, 0)]:
            stacks = [("one", along, 0, 0, 1, 3, 99), ("two", other, 0, 0, 1, 3, 99)]
            tanks = [("bow", -7, 0, 0, 20), ("stern", 6, 0, 0, 20)]
            ship = ((100, 0, 0, 0), (0, 0, 0, 0, 9, 999), stacks, tanks, [])
            sums = [Fraction(5 * place, 7) if place > 0 else Fraction(-5 * place, 6) for place in (along, other)]
            self.assertEqual(sums.index(min(sums)), wanted)
            self.assert_stack(ship, [[], []], box_of("new"), [], wanted)

    def test_the_sum_of_all_tanks(self):
        # The first one needs 2 of one tank and 3 of another one, the second one 4 of one tank.
        stacks = [("one", -4, -6, 0, 1, 3, 99), ("two", -8, 0, 0, 1, 3, 99)]
        tanks = [("stern", 10, 0, 0, 20), ("star", 0, 10, 0, 20)]
        ship = ((100, 0, 0, 0), (0, 0, 0, 0, 9, 999), stacks, tanks, [])
        self.assertEqual(ballast(ship, [[box_of("new")], []])[1], [(2, 1), (3, 1)])
        self.assertEqual(ballast(ship, [[], [box_of("new")]])[1], [(4, 1), (0, 1)])
        self.assert_stack(ship, [[], []], box_of("new"), [], 1)

    def test_overstanding_goes_ahead_of_the_sum(self):
        cargo = [[], [box_of("a")], []]
        self.assert_stack(LEVEL, cargo, box_of("new", "rome"), PORTS, 1)
        self.assert_stack(LEVEL, cargo, box_of("new", "oslo"), PORTS, 0)
        cargo = [[box_of("a"), box_of("b")], [box_of("c"), box_of("d")], [box_of("e")]]
        self.assertEqual(ballast(LEVEL, cargo[:2] + [cargo[2] + [box_of("new")]])[1], [(0, 1), (0, 1)])
        self.assert_stack(LEVEL, cargo, box_of("new", "oslo"), PORTS, 2)
        cargo = [[box_of("a")], [box_of("c"), box_of("d")], [box_of("e"), box_of("b")]]
        self.assert_stack(LEVEL, cargo, box_of("new", "oslo"), PORTS, 0)

    def test_the_sum_goes_ahead_of_the_first(self):
        self.assert_stack(LEVEL, [[], [box_of("a")], [box_of("b")]], box_of("new", "oslo"), ["bern"], 0)
        self.assert_stack(LEVEL, [[box_of("a")], [box_of("b")], []], box_of("new", "oslo"), ["bern"], 2)

    def test_stacks_on_which_a_rule_would_break_are_left_out(self):
        full = [box_of(name, "bern", 1) for name in "abc"]
        self.assert_stack(EASY, [full, [], []], box_of("new"), PORTS, 1)
        # Here it would be overstanding, but the others may not be taken.
        cargo = [full, [box_of("d", "bern"), box_of("e", "bern"), box_of("f", "bern")], [box_of("g"), box_of("h")]]
        self.assert_stack(EASY, cargo, box_of("new", "oslo"), PORTS, 2)
        weak = box_of("weak", "bern", bears=4)
        self.assert_stack(EASY, [[weak], [], []], box_of("new"), PORTS, 1)
        self.assert_stack(EASY, [[weak], [], []], box_of("new", weight=4), PORTS, 0)
        stacks = [("one", 0, 0, 0, 1, 3, 4), ("two", 3, 4, 0, 1, 3, 5)]
        ship = ((100, 0, 0, 0), WIDE, stacks, [], [])
        self.assert_stack(ship, [[], []], box_of("new"), PORTS, 1)
        self.assert_stack(ship, [[], []], box_of("new", weight=4), PORTS, 0)

    def test_kinds_apart(self):
        stacks = [("one", 0, 0, 0, 1, 3, 900), ("two", 2, 2, 0, 1, 3, 900), ("three", 3, 4, 0, 1, 3, 900)]
        for far, wanted in [(1, 1), (4, 1), (5, 2), (7, 2)]:
            ship = ((100, 0, 0, 0), WIDE, stacks, [], [("food", "acid", far)])
            cargo = [[box_of("a", kind="acid")], [], []]
            self.assert_stack(ship, cargo, box_of("new", kind="food"), PORTS, wanted)
            self.assert_stack(ship, cargo, box_of("new", kind="acid"), PORTS, 0)
        ship = ((100, 0, 0, 0), WIDE, stacks, [], [("food", "acid", 8)])
        self.assert_refusal(ship, [[box_of("a", kind="acid")], [], []], box_of("new", kind="food"), PORTS, NoStack)

    def test_stacks_without_right_fills_are_left_out(self):
        heavy = box_of("new", weight=26)
        self.assert_stack(LEVEL, EMPTY, heavy, PORTS, 1)
        # Though it is overstanding there.
        self.assert_stack(LEVEL, [[], [box_of("a")], []], box_of("new", "oslo", 26), PORTS, 1)
        self.assert_stack(LEVEL, [[], [box_of("a")], []], box_of("new", "oslo", 25), PORTS, 0)

    def test_none_is_left(self):
        self.assert_refusal(BARE, [], box_of("new"), [], NoStack)
        self.assert_refusal(EASY, EMPTY, box_of("new", weight=901), [], NoStack)
        self.assert_stack(EASY, EMPTY, box_of("new", weight=900), [], 0)
        self.assert_refusal(LEVEL, EMPTY, box_of("new", weight=900), [], NoStack)
        full = [[box_of(s + t, weight=1) for t in "abc"] for s in "xyz"]
        self.assert_refusal(EASY, full, box_of("new"), PORTS, NoStack)
        # She can not be brought to 0 with it: not on one side, for water, and not amidships, for rules.
        cargo = [[], [box_of("a", bears=0)], []]
        self.assert_refusal(LEVEL, cargo, box_of("new", weight=26), PORTS, NoStack)

    def test_the_cargo_breaks_a_rule_already(self):
        cargo = [[], [], [box_of("a", bears=0), box_of("b")]]
        self.assert_refusal(EASY, cargo, box_of("new"), PORTS, NoStack)
        self.assert_stack(EASY, [[], [], [box_of("a", bears=5), box_of("b")]], box_of("new"), PORTS, 0)

    def test_the_cargo_has_no_right_fills_yet(self):
        # With the box on the other side she comes upright.
        ship = LEVEL[:3] + ([], [])
        self.assert_stack(ship, [[box_of("a")], [], []], box_of("new"), PORTS, 2)
        self.assert_refusal(ship, [[box_of("a")], [], []], box_of("new", weight=4), PORTS, NoStack)

    def test_a_box_is_refused_as_a_load_is(self):
        cargo = [[box_of("a")], [], [box_of("b", "oslo")]]
        for ship, there in [(EASY, cargo), (LEVEL, cargo), (BARE, [])]:
            for thing in NO_NAMES:
                with self.subTest(thing=thing):
                    self.assert_refusal(ship, there, box_of(thing), PORTS, NoName)
                    self.assert_refusal(ship, there, box_of("new", thing), PORTS, NoName)
                    self.assert_refusal(ship, there, box_of("new", kind=thing), PORTS, NoName)
            for weight in [0, -1, -(10 ** 9)]:
                self.assert_refusal(ship, there, box_of("new", weight=weight), PORTS, NoWeight)
            for bears in [-1, -(10 ** 9)]:
                self.assert_refusal(ship, there, box_of("new", bears=bears), PORTS, NoWeight)
        for name in ["a", "b"]:
            self.assert_refusal(EASY, cargo, box_of(name), PORTS, NoName)
        self.assert_stack(EASY, cargo, box_of("c", weight=1, bears=0), PORTS, 0)

    def test_the_first_thing_wrong_decides(self):
        faults = [(0, "X", NoName), (0, None, NoName), (0, "a", NoName), (1, 0, NoWeight), (2, "X", NoName),
                  (2, [], NoName), (3, "X", NoName), (3, (), NoName), (4, -1, NoWeight)]
        for several in itertools.chain(itertools.combinations(faults, 2), itertools.combinations(faults, 3)):
            parts = list(box_of("new"))
            for place, thing, refusal in reversed(several):
                parts[place] = thing
            first = min(several, key=lambda fault: fault[0])
            with self.subTest(parts=parts):
                self.assert_refusal(EASY, [[box_of("a")], [], []], tuple(parts), PORTS, first[2])

    def test_a_wrong_box_is_refused_ahead_of_no_stack(self):
        full = [[box_of(s + t, weight=1) for t in "abc"] for s in "xyz"]
        self.assert_refusal(EASY, full, box_of("new", weight=0), PORTS, NoWeight)
        self.assert_refusal(EASY, full, box_of("xa"), PORTS, NoName)
        self.assert_refusal(EASY, full, box_of("new", "Oslo"), PORTS, NoName)

    def test_many_ships(self):
        state = 5

        def drawn(low, high):
            nonlocal state
            state = (state * 6364136223846793005 + 1442695040888963407) % 2 ** 64
            return low + (state >> 33) % (high - low + 1)

        def drawn_box(name):
            port = ["rome", "oslo", "bern", "kiel"][drawn(0, 3)]
            return (name, drawn(1, 9), port, ["acid", "food", "coal"][drawn(0, 2)], drawn(5, 40))

        told = {"first": 0, "later": 0, "refused": 0}
        for number in range(300):
            stacks = [(name, drawn(-9, 9), drawn(-4, 4), drawn(0, 2), drawn(1, 2), drawn(2, 4), drawn(15, 60))
                      for name in "abcdef"[:drawn(2, 6)]]
            tanks = [(name, drawn(-9, 9), drawn(-6, 6), drawn(-3, 3), drawn(1, 30)) for name in "abcd"[:drawn(1, 4)]]
            bounds = (-drawn(0, 2), drawn(0, 2), -drawn(0, 2), drawn(0, 2), drawn(1, 4), drawn(120, 300))
            apart = [("acid", "food", drawn(1, 5))][:drawn(0, 1)]
            ship = ((drawn(40, 90), 0, 0, 0), bounds, stacks, tanks, apart)
            names = iter("abcdefghijklmnopqrstuvwx")
            cargo = [[drawn_box(next(names)) for _ in range(drawn(0, 2))] for _ in stacks]
            ports = [["rome", "oslo", "bern"][drawn(0, 2)] for _ in range(drawn(0, 4))]
            box = drawn_box("new")
            offers = []
            for s in range(len(stacks)):
                after = [boxes + [box] * (place == s) for place, boxes in enumerate(cargo)]
                fills = ballast(ship, after)
                if not broken(ship, after) and fills[0] == "fill":
                    offers.append((counted(cargo[s], box[2], ports), sum(Fraction(*fill) for fill in fills[1]), s))
            with self.subTest(number=number):
                if offers:
                    self.assert_stack(ship, cargo, box, ports, min(offers)[2])
                    told["first" if min(offers) == offers[0] else "later"] += 1
                else:
                    self.assert_refusal(ship, cargo, box, ports, NoStack)
                    told["refused"] += 1
        self.assertGreater(min(told.values()), 30, told)


class Stowed(unittest.TestCase):
    def assert_stowed(self, ship, cargo, boxes, ports, wanted):
        before = repr((ship, cargo, boxes, ports))
        told = stowed(ship, cargo, boxes, ports)
        self.assertIs(type(told), list)
        self.assertEqual(told, wanted)
        self.assertEqual(repr((ship, cargo, boxes, ports)), before)
        for one in [told] + told:
            self.assertIs(type(one), list)
            for other in [cargo, boxes, ports] + cargo:
                self.assertIsNot(one, other)

    def assert_refusal(self, ship, cargo, boxes, ports, refusal):
        before = repr((ship, cargo, boxes, ports))
        with self.assertRaises(KeelError) as caught:
            stowed(ship, cargo, boxes, ports)
        self.assertIs(type(caught.exception), refusal)
        self.assertEqual(repr((ship, cargo, boxes, ports)), before)

    def test_no_boxes(self):
        self.assert_stowed(BARE, [], [], [], [])
        for cargo in [EMPTY, [[box_of("a")], [], [box_of("b")]]]:
            for ship in [EASY, LEVEL]:
                self.assert_stowed(ship, cargo, [], PORTS, cargo)
        # Nothing is asked where nothing is put on.
        cargo = [[box_of("a", bears=0), box_of("b")], [], []]
        self.assert_stowed(EASY, cargo, [], PORTS, cargo)

    def test_one(self):
        box = box_of("a")
        self.assert_stowed(EASY, EMPTY, [box], PORTS, [[box], [], []])
        self.assert_stowed(LEVEL, EMPTY, [box], PORTS, [[], [box], []])

    def test_several(self):
        one, two, three = box_of("a", "rome"), box_of("b", "oslo"), box_of("c", "bern")
        self.assert_stowed(EASY, EMPTY, [one, two, three], PORTS, [[one], [two], [three]])
        self.assert_stowed(EASY, EMPTY, [three, two, one], PORTS, [[three, two, one], [], []])
        self.assert_stowed(EASY, EMPTY, [two, one, three], PORTS, [[two, one], [three], []])
        self.assert_stowed(EASY, [[one], [], []], [two, three], [], [[one, two, three], [], []])

    def test_each_goes_by_the_cargo_behind_the_one_ahead(self):
        stacks = [STACKS[0], STACKS[2]]
        ship = LEVEL[:2] + (stacks,) + LEVEL[3:]
        boxes = [box_of(name) for name in "abcd"]
        self.assert_stowed(ship, [[], []], boxes, [], [[boxes[0], boxes[2]], [boxes[1], boxes[3]]])

    def test_nine_fill_her(self):
        boxes = [box_of(name, weight=1) for name in "abcdefghi"]
        wanted = [boxes[:3], boxes[3:6], boxes[6:]]
        self.assert_stowed(EASY, EMPTY, boxes, PORTS, wanted)
        self.assert_refusal(EASY, EMPTY, boxes + [box_of("j")], PORTS, NoStack)

    def test_refused_when_its_turn_comes(self):
        wrong = [(box_of("X"), NoName), (box_of("x", weight=0), NoWeight), (box_of("x", None), NoName),
                 (box_of("x", kind=""), NoName), (box_of("x", bears=-1), NoWeight), (box_of("a"), NoName),
                 (box_of("x", weight=901), NoStack)]
        for box, refusal in wrong:
            with self.subTest(box=box):
                self.assert_refusal(EASY, [[box_of("a")], [], []], [box], PORTS, refusal)
                self.assert_refusal(EASY, [[box_of("a")], [], []], [box_of("b"), box], PORTS, refusal)
                self.assert_refusal(EASY, EMPTY, [box_of("a"), box_of("b"), box, box_of("c")], PORTS, refusal)
        for (box, refusal), (other, _) in itertools.permutations(wrong, 2):
            self.assert_refusal(EASY, EMPTY, [box_of("a"), box, other], PORTS, refusal)

    def test_name_of_an_earlier_one(self):
        self.assert_refusal(EASY, EMPTY, [box_of("a"), box_of("b"), box_of("a", "oslo")], PORTS, NoName)
        # A first one for which there is no stack is refused ahead of a second one with its name.
        self.assert_refusal(EASY, EMPTY, [box_of("a", weight=901), box_of("a")], PORTS, NoStack)

    def test_told_is_the_askers_own(self):
        cargo = [[box_of("a")], [], []]
        boxes = [box_of("b")]
        ports = list(PORTS)
        for given in [[], boxes]:
            told = stowed(EASY, cargo, given, ports)
            wanted = copy.deepcopy(told)
            for stack in told:
                stack.append("something")
            told.clear()
            self.assertEqual(cargo, [[box_of("a")], [], []])
            self.assertEqual(stowed(EASY, cargo, given, ports), wanted)
        told = stowed(EASY, cargo, boxes, ports)
        wanted = copy.deepcopy(told)
        cargo[0].clear()
        boxes.clear()
        ports.clear()
        self.assertEqual(told, wanted)


if __name__ == "__main__":
    unittest.main()
