"""Points 21, 22 and 23, by the rules of 10 and the checks of 16, 17 and 18."""

import copy
import itertools
import unittest

from keel.ballast import ballast, within
from keel.calls import called, moved_at, stepped, steps_of
from keel.cargoes import broken
from keel.checks import mix_shows, prices_show, right_fills
from keel.errors import KeelError, NoName, NoStack, NoWeight
from keel.weights import rows_of

NO_NAMES = [
    "", "abcdefghi", "A", "Rome", "a1", "1", "a b", " a", "a ", "a\n", "`", "{", "\u00e9",
    None, 0, 1, -5, True, False, [], ["a"], [["a"]], (), ("a",), (["a"],),
]

WIDE = (-1000, 1000, -1000, 1000, 1000, 10 ** 9)
STACKS = [("fore", -8, 0, 1, 2, 9, 900), ("mid", 0, 0, 1, 2, 9, 900), ("aft", 8, 0, 1, 2, 9, 900)]
EASY = ((100, 0, 0, 0), WIDE, STACKS, [], [])
BARE = ((100, 0, 0, 0), WIDE, [], [], [])
# Both of these have to lie at 0 along; the one can be brought there by water, the other one can not.
TANKS = [("bow", -10, 0, 0, 20), ("stern", 10, 0, 0, 20)]
LEVEL = ((100, 0, 0, 0), (0, 0, 0, 0, 9, 999), STACKS, TANKS, [])
DRY = ((100, 0, 0, 0), (0, 0, 0, 0, 9, 999), STACKS, [], [])


def box_of(name, port="rome", weight=5, kind="coal", bears=900):
    return (name, weight, port, kind, bears)


ROME = [box_of(name, "rome") for name in ("ra", "rb", "rc", "rd", "re")]
OSLO = [box_of(name, "oslo") for name in ("oa", "ob", "oc", "od", "oe")]


def behind_step(cargo, step, boxes):
    """The step done in another way, boxes being all there are, by their names."""
    after = [list(stack) for stack in cargo]
    if step[0] == "off":
        assert after[step[1]][-1][0] == step[2]
        after[step[1]] = after[step[1]][:-1]
    else:
        after[step[1]] = after[step[1]] + [boxes[step[2]]]
    return after


def known_boxes(cargo, call):
    boxes = [box for stack in cargo for box in stack] + [box for box, s in call[1]]
    return {box[0]: box for box in boxes}


def lists_of(cargo):
    return [cargo] + list(cargo)


class StepsCase(unittest.TestCase):
    def assert_steps(self, cargo, call, wanted):
        before = repr((cargo, call))
        told = steps_of(cargo, call)
        self.assertIs(type(told), list)
        self.assertEqual(told, wanted)
        for step in told:
            self.assertIs(type(step), tuple)
        moved = moved_at(cargo, call)
        self.assertIs(type(moved), list)
        self.assertEqual(moved, [name for deed, s, name in wanted if deed == "back"])
        self.assertEqual(repr((cargo, call)), before)


class Steps(StepsCase):
    def test_no_box_of_the_port(self):
        for cargo in [[], [[]], [[], [], []], [[OSLO[0]]], [OSLO[:2], [], OSLO[2:]], [ROME[:1], OSLO[:2]]]:
            self.assert_steps(cargo, ("bern", []), [])

    def test_one_box_alone(self):
        self.assert_steps([[ROME[0]]], ("rome", []), [("off", 0, "ra")])
        self.assert_steps([[], [], [ROME[0]]], ("rome", []), [("off", 2, "ra")])

    def test_on_top(self):
        cargo = [[OSLO[0], OSLO[1], ROME[0]]]
        self.assert_steps(cargo, ("rome", []), [("off", 0, "ra")])

    def test_in_the_middle(self):
        cargo = [[OSLO[0], ROME[0], OSLO[1], OSLO[2]]]
        self.assert_steps(cargo, ("rome", []), [
            ("off", 0, "oc"), ("off", 0, "ob"), ("off", 0, "ra"), ("back", 0, "ob"), ("back", 0, "oc"),
        ])

    def test_at_the_bottom(self):
        cargo = [[], [ROME[0], OSLO[0], OSLO[1]]]
        self.assert_steps(cargo, ("rome", []), [
            ("off", 1, "ob"), ("off", 1, "oa"), ("off", 1, "ra"), ("back", 1, "oa"), ("back", 1, "ob"),
        ])

    def test_several_in_one_stack_with_others_between(self):
        cargo = [[OSLO[0], ROME[0], OSLO[1], ROME[1], OSLO[2], ROME[2]]]
        self.assert_steps(cargo, ("rome", []), [
            ("off", 0, "rc"), ("off", 0, "oc"), ("off", 0, "rb"), ("off", 0, "ob"), ("off", 0, "ra"),
            ("back", 0, "ob"), ("back", 0, "oc"),
        ])

    def test_all_of_a_stack(self):
        self.assert_steps([ROME[:3]], ("rome", []), [("off", 0, "rc"), ("off", 0, "rb"), ("off", 0, "ra")])

    def test_in_several_stacks(self):
        cargo = [[ROME[0], OSLO[0]], [OSLO[1]], [OSLO[2], ROME[1], OSLO[3]], [ROME[2]]]
        self.assert_steps(cargo, ("rome", []), [
            ("off", 0, "oa"), ("off", 0, "ra"), ("back", 0, "oa"),
            ("off", 2, "od"), ("off", 2, "rb"), ("back", 2, "od"),
            ("off", 3, "rc"),
        ])

    def test_others_are_of_several_ports(self):
        cargo = [[ROME[0], box_of("one", "bern"), OSLO[0], box_of("two", "bern")]]
        self.assert_steps(cargo, ("rome", []), [
            ("off", 0, "two"), ("off", 0, "oa"), ("off", 0, "one"), ("off", 0, "ra"),
            ("back", 0, "one"), ("back", 0, "oa"), ("back", 0, "two"),
        ])

    def test_names_and_kinds_like_the_port(self):
        cargo = [[box_of("rome", "oslo", kind="rome"), box_of("oslo", "rome"), box_of("bern", "oslo", kind="rome")]]
        self.assert_steps(cargo, ("rome", []), [("off", 0, "bern"), ("off", 0, "oslo"), ("back", 0, "bern")])

    def test_loads_alone(self):
        loads = [(OSLO[0], 2), (OSLO[1], 0), (OSLO[2], 2)]
        self.assert_steps([[], [], []], ("rome", loads), [("on", 2, "oa"), ("on", 0, "ob"), ("on", 2, "oc")])
        self.assert_steps([[OSLO[3]], [], []], ("rome", loads), [("on", 2, "oa"), ("on", 0, "ob"), ("on", 2, "oc")])

    def test_load_for_the_port_itself(self):
        self.assert_steps([[]], ("rome", [(ROME[0], 0)]), [("on", 0, "ra")])
        loads = [(ROME[1], 0), (OSLO[1], 0), (ROME[2], 0)]
        self.assert_steps([[ROME[0], OSLO[0]]], ("rome", loads), [
            ("off", 0, "oa"), ("off", 0, "ra"), ("back", 0, "oa"),
            ("on", 0, "rb"), ("on", 0, "ob"), ("on", 0, "rc"),
        ])

    def test_loads_come_behind_all_stacks(self):
        cargo = [[ROME[0], OSLO[0]], [ROME[1], OSLO[1]]]
        loads = [(OSLO[2], 1), (OSLO[3], 1), (OSLO[4], 0)]
        self.assert_steps(cargo, ("rome", loads), [
            ("off", 0, "oa"), ("off", 0, "ra"), ("back", 0, "oa"),
            ("off", 1, "ob"), ("off", 1, "rb"), ("back", 1, "ob"),
            ("on", 1, "oc"), ("on", 1, "od"), ("on", 0, "oe"),
        ])

    def test_all_small_cargoes(self):
        for ports in itertools.product(["rome", "oslo", "bern"], repeat=4):
            for cut in range(5):
                boxes = [box_of(name, port) for name, port in zip("abcd", ports)]
                cargo = [boxes[:cut], [], boxes[cut:]]
                loads = [(box_of("e", "rome"), 1), (box_of("f", "oslo"), 0)]
                wanted = []
                for s, stack in enumerate(cargo):
                    above = []
                    while any(box[2] == "rome" for box in stack):
                        box = stack[-1]
                        stack = stack[:-1]
                        wanted.append(("off", s, box[0]))
                        if box[2] != "rome":
                            above.append(box)
                    while above:
                        wanted.append(("back", s, above.pop()[0]))
                self.assert_steps(cargo, ("rome", []), wanted)
                self.assert_steps(cargo, ("rome", loads), wanted + [("on", 1, "e"), ("on", 0, "f")])

    def test_told_is_the_askers_own(self):
        cargo = [[ROME[0], OSLO[0]]]
        call = ("rome", [(OSLO[1], 0)])
        told, moved = steps_of(cargo, call), moved_at(cargo, call)
        told.clear()
        moved.clear()
        self.assertEqual(len(steps_of(cargo, call)), 4)
        self.assertEqual(moved_at(cargo, call), ["oa"])
        told, moved = steps_of(cargo, call), moved_at(cargo, call)
        cargo[0].clear()
        call[1].clear()
        self.assertEqual(len(told), 4)
        self.assertEqual(moved, ["oa"])


class Stepped(unittest.TestCase):
    def assert_stepped(self, cargo, step, box, wanted):
        before = repr((cargo, step, box))
        told = stepped(cargo, step, box)
        self.assertIs(type(told), list)
        self.assertEqual(told, wanted)
        self.assertEqual(repr((cargo, step, box)), before)
        for one in lists_of(told):
            self.assertIs(type(one), list)
            for other in lists_of(cargo):
                self.assertIsNot(one, other)
        before = copy.deepcopy(cargo)
        for stack in told:
            stack.append("something")
        self.assertEqual(cargo, before)

    def test_off(self):
        self.assert_stepped([[ROME[0]]], ("off", 0, "ra"), None, [[]])
        cargo = [ROME[:2], OSLO[:3], []]
        self.assert_stepped(cargo, ("off", 0, "rb"), None, [ROME[:1], OSLO[:3], []])
        self.assert_stepped(cargo, ("off", 1, "oc"), None, [ROME[:2], OSLO[:2], []])

    def test_back_and_on(self):
        for deed in ["back", "on"]:
            cargo = [ROME[:2], OSLO[:3], []]
            self.assert_stepped(cargo, (deed, 0, "od"), OSLO[3], [ROME[:2] + [OSLO[3]], OSLO[:3], []])
            self.assert_stepped(cargo, (deed, 1, "rc"), ROME[2], [ROME[:2], OSLO[:3] + [ROME[2]], []])
            self.assert_stepped(cargo, (deed, 2, "rc"), ROME[2], [ROME[:2], OSLO[:3], [ROME[2]]])
            self.assert_stepped([[]], (deed, 0, "rc"), ROME[2], [[ROME[2]]])

    def test_later_changes_of_what_was_handed_in(self):
        cargo = [ROME[:2], OSLO[:3]]
        told = stepped(cargo, ("off", 0, "rb"), None)
        cargo[1].clear()
        cargo.clear()
        self.assertEqual(told, [ROME[:1], OSLO[:3]])


class CalledCase(unittest.TestCase):
    def assert_upright(self, ship, cargo, fills):
        rows, rooms = rows_of(ship, cargo), [tank[4] for tank in ship[3]]
        self.assertEqual(broken(ship, cargo), [])
        self.assertIs(type(fills), list)
        self.assertEqual(len(fills), len(rooms))
        self.assertTrue(right_fills(rows, rooms, fills))
        self.assertTrue(within(ship, cargo, fills))
        told = ballast(ship, cargo)
        self.assertEqual(told[0], "fill")
        self.assertTrue(prices_show(rows, rooms, fills, told[2]))

    def assert_refused_for(self, ship, cargo, why):
        self.assertIs(type(why), tuple)
        self.assertEqual(len(why), 2)
        rules = broken(ship, cargo)
        if rules:
            self.assertEqual(why, ("broken", rules))
            self.assertIs(type(why[1]), list)
        else:
            self.assertEqual(why[0], "none")
            rows, rooms = rows_of(ship, cargo), [tank[4] for tank in ship[3]]
            self.assertEqual([len(why[1][0]), len(why[1][1])], [len(rows), len(rooms)])
            self.assertTrue(mix_shows(rows, rooms, why[1]))

    def told_of(self, ship, cargo, call):
        """What is told, which is seen to hold step by step."""
        before = repr((ship, cargo, call))
        told = called(ship, cargo, call)
        self.assertEqual(repr((ship, cargo, call)), before)
        self.assertIs(type(told), tuple)
        steps = steps_of(cargo, call)
        boxes = known_boxes(cargo, call)
        behind = [list(stack) for stack in cargo]
        if told[0] == "done":
            self.assertEqual(len(told), 4)
            self.assertEqual([step for step, fills in told[2]], steps)
            for entry in told[2]:
                self.assertIs(type(entry), tuple)
                behind = behind_step(behind, entry[0], boxes)
                self.assert_upright(ship, behind, entry[1])
            self.assertEqual(told[1], behind)
            self.assertEqual(told[3], moved_at(cargo, call))
            self.assertEqual([type(part) for part in told[1:]], [list, list, list])
            for one in lists_of(told[1]):
                for other in lists_of(cargo):
                    self.assertIsNot(one, other)
        else:
            self.assertEqual((told[0], len(told)), ("refused", 3))
            self.assertIs(type(told[1]), int)
            for number, step in enumerate(steps[:told[1] + 1]):
                behind = behind_step(behind, step, boxes)
                if number < told[1]:
                    self.assertEqual(broken(ship, behind), [])
                    self.assertEqual(ballast(ship, behind)[0], "fill")
            self.assert_refused_for(ship, behind, told[2])
        return told

    def assert_done(self, ship, cargo, call, wanted, moved):
        told = self.told_of(ship, cargo, call)
        self.assertEqual(told[0], "done")
        self.assertEqual(told[1], wanted)
        self.assertEqual(told[3], moved)

    def assert_refused(self, ship, cargo, call, number, why):
        """Rules are told as they stand; of a mix just its word."""
        told = self.told_of(ship, cargo, call)
        self.assertEqual(told[:2], ("refused", number))
        if why == "none":
            self.assertEqual(told[2][0], "none")
        else:
            self.assertEqual(told[2], ("broken", why))


class Done(CalledCase):
    def test_off_alone(self):
        self.assert_done(EASY, [[ROME[0]], [], []], ("rome", []), [[], [], []], [])
        self.assert_done(EASY, [ROME[:2], OSLO[:2], ROME[2:]], ("rome", []), [[], OSLO[:2], []], [])

    def test_moved_back_in_their_order(self):
        cargo = [[OSLO[0], ROME[0], OSLO[1], ROME[1], OSLO[2]], [], [ROME[2], OSLO[3], OSLO[4]]]
        wanted = [OSLO[:3], [], OSLO[3:]]
        self.assert_done(EASY, cargo, ("rome", []), wanted, ["ob", "oc", "od", "oe"])

    def test_with_loads(self):
        cargo = [[ROME[0], OSLO[0]], [], []]
        loads = [(ROME[1], 0), (OSLO[1], 0), (OSLO[2], 2)]
        wanted = [[OSLO[0], ROME[1], OSLO[1]], [], [OSLO[2]]]
        self.assert_done(EASY, cargo, ("rome", loads), wanted, ["oa"])

    def test_load_for_the_port_itself_stays(self):
        cargo = [[ROME[0]], [], []]
        self.assert_done(EASY, cargo, ("rome", [(ROME[1], 0)]), [[ROME[1]], [], []], [])
        self.assert_done(EASY, [[], [], []], ("rome", [(ROME[1], 0)]), [[ROME[1]], [], []], [])

    def test_log(self):
        # Behind each step she is brought to 0 along by the water of one tank alone.
        cargo = [[ROME[0], OSLO[0]], [], []]
        told = self.told_of(LEVEL, cargo, ("rome", [(OSLO[1], 2)]))
        dry, four = (0, 1), (4, 1)
        self.assertEqual(told[2], [
            (("off", 0, "oa"), [dry, four]), (("off", 0, "ra"), [dry, dry]), (("back", 0, "oa"), [dry, four]),
            (("on", 2, "ob"), [dry, dry]),
        ])
        self.assertEqual(told[3], ["oa"])

    def test_boxes_on_the_quay_weigh_nothing(self):
        # Four boxes would need more water than there is, three do not.
        heavy = [box_of(name, port, 8) for name, port in [("a", "rome"), ("b", "oslo"), ("c", "oslo"), ("d", "rome")]]
        told = self.told_of(LEVEL, [heavy, [], []], ("rome", []))
        self.assertEqual([fills[1] for step, fills in told[2]], [(96, 5), (64, 5), (32, 5), (0, 1), (32, 5), (64, 5)])

    def test_where_several_fills_do(self):
        tanks = [("bow", -10, 0, 0, 20), ("front", -10, 0, 0, 20), ("stern", 10, 0, 0, 20)]
        ship = LEVEL[:3] + (tanks, [])
        told = self.told_of(ship, [[], [], [OSLO[0]]], ("rome", [(OSLO[1], 2)]))
        fills = told[2][0][1]
        self.assertEqual((fills[0][0] * fills[1][1] + fills[1][0] * fills[0][1], fills[2]),
                         (8 * fills[0][1] * fills[1][1], (0, 1)))

    def test_without_tanks_the_fills_are_empty(self):
        told = self.told_of(EASY, [[ROME[0]], [], []], ("rome", [(OSLO[0], 1)]))
        self.assertEqual(told[2], [(("off", 0, "ra"), []), (("on", 1, "oa"), [])])

    def test_no_steps(self):
        for ship in [EASY, LEVEL, DRY]:
            self.assertEqual(self.told_of(ship, [[], [], []], ("rome", [])), ("done", [[], [], []], [], []))
            cargo = [OSLO[:1], [], OSLO[1:2]]
            self.assertEqual(self.told_of(ship, cargo, ("rome", [])), ("done", cargo, [], []))
        self.assertEqual(self.told_of(BARE, [], ("rome", [])), ("done", [], [], []))

    def test_no_steps_though_a_rule_is_broken(self):
        stacks = [("fore", 0, 0, 0, 1, 1, 1), ("aft", 1, 0, 0, 1, 1, 1)]
        ship = ((100, 0, 0, 0), WIDE, stacks, [], [("coal", "coal", 5)])
        cargo = [[box_of("a", "oslo", 5, "coal", 0), box_of("b", "oslo")], [box_of("c", "oslo")]]
        self.assertNotEqual(broken(ship, cargo), [])
        self.assertEqual(self.told_of(ship, cargo, ("rome", [])), ("done", cargo, [], []))

    def test_no_steps_though_no_fills_would_do(self):
        cargo = [OSLO[:1], [], []]
        self.assertEqual(ballast(DRY, cargo)[0], "none")
        self.assertEqual(self.told_of(DRY, cargo, ("rome", [])), ("done", cargo, [], []))

    def test_the_cargo_ahead_may_break_rules(self):
        low = [("fore", 0, 0, 0, 1, 1, 900)]
        ship = ((100, 0, 0, 0), WIDE, low, [], [])
        cargo = [[OSLO[0], ROME[0]]]
        self.assertEqual(broken(ship, cargo), [("high", 0)])
        self.assert_done(ship, cargo, ("rome", []), [[OSLO[0]]], [])
        self.assert_done(DRY, [ROME[:1], [], []], ("rome", []), [[], [], []], [])

    def test_just_the_boxes_of_the_port_go_out(self):
        for ports in itertools.product(["rome", "oslo", "bern"], repeat=4):
            boxes = [box_of(name, port) for name, port in zip("abcd", ports)]
            cargo = [boxes[:2], boxes[2:], []]
            wanted = [[box for box in stack if box[2] != "rome"] for stack in cargo]
            moved = [stack[1][0] for stack in cargo[:2] if stack[0][2] == "rome" != stack[1][2]]
            self.assert_done(EASY, cargo, ("rome", []), wanted, moved)

    def test_told_is_the_askers_own(self):
        cargo = [[ROME[0], OSLO[0]], [], []]
        call = ("rome", [(OSLO[1], 2)])
        told = called(LEVEL, cargo, call)
        wanted = copy.deepcopy(told)
        cargo[0].clear()
        call[1].clear()
        self.assertEqual(told, wanted)
        cargo = [[ROME[0], OSLO[0]], [], []]
        call = ("rome", [(OSLO[1], 2)])
        told = called(LEVEL, cargo, call)
        for stack in told[1]:
            stack.append("something")
        for step, fills in told[2]:
            fills.append("something")
        self.assertEqual([len(fills) for step, fills in told[2]], [3, 3, 3, 3])
        told[2].clear()
        told[3].clear()
        self.assertEqual(cargo, [[ROME[0], OSLO[0]], [], []])
        self.assertEqual(called(LEVEL, cargo, call), wanted)


class Refused(CalledCase):
    def test_broken_at_the_first_step(self):
        ship = ((100, 0, 0, 0), WIDE, [("fore", 0, 0, 0, 1, 1, 900), ("aft", 9, 0, 0, 1, 1, 900)], [], [])
        self.assert_refused(ship, [[], OSLO[:2]], ("rome", [(OSLO[2], 0)]), 0, [("high", 1)])
        self.assert_refused(ship, [ROME[:1], OSLO[:2]], ("rome", []), 0, [("high", 1)])
        self.assert_refused(ship, [OSLO[:1], []], ("rome", [(OSLO[2], 0), (OSLO[3], 1)]), 0, [("high", 0)])

    def test_broken_at_a_later_step(self):
        ship = ((100, 0, 0, 0), WIDE, [("fore", 0, 0, 0, 1, 2, 900), ("aft", 9, 0, 0, 1, 2, 12)], [], [])
        cargo = [[ROME[0], OSLO[0]], []]
        self.assert_refused(ship, cargo, ("rome", [(OSLO[1], 0), (OSLO[2], 0)]), 4, [("high", 0)])
        loads = [(OSLO[1], 1), (box_of("x", weight=8), 1), (OSLO[2], 0)]
        self.assert_refused(ship, cargo, ("rome", loads), 4, [("most", 1)])
        loads = [(OSLO[1], 0), (box_of("x", weight=8), 1), (OSLO[2], 0)]
        self.assert_refused(ship, cargo, ("rome", loads), 5, [("high", 0)])

    def test_broken_when_set_back(self):
        # A box is set back upon the one that was two below it, which bears less.
        cargo = [[box_of("a", "oslo", bears=5), box_of("b", "rome", 1, bears=4), box_of("c", "oslo", 9)], [], []]
        self.assert_refused(EASY, cargo, ("rome", []), 2, [("bears", 0, 0)])

    def test_each_rule(self):
        stacks = [("fore", 0, 0, 0, 1, 2, 20), ("aft", 3, 4, 0, 1, 2, 20)]
        ship = ((100, 0, 0, 0), WIDE, stacks, [], [("acid", "food", 8)])
        low = box_of("low", "oslo", 5, "acid", 4)
        self.assert_refused(ship, [[low], []], ("rome", [(OSLO[0], 0)]), 0, [("bears", 0, 0)])
        self.assert_refused(ship, [[low], []], ("rome", [(box_of("x", "oslo", 21), 1)]), 0, [("most", 1)])
        self.assert_refused(ship, [[low], []], ("rome", [(box_of("x", "oslo", 2, "food"), 1)]), 0,
                            [("apart", 0, 0, 1, 0)])
        self.assert_refused(ship, [[], OSLO[:2]], ("rome", [(box_of("x", "oslo", 1), 1)]), 0, [("high", 1)])

    def test_all_broken_rules_are_told(self):
        stacks = [("fore", 0, 0, 0, 1, 1, 10), ("aft", 3, 4, 0, 1, 2, 20)]
        ship = ((100, 0, 0, 0), WIDE, stacks, [], [("acid", "food", 8)])
        cargo = [[box_of("low", "oslo", 6, "acid", 4)], [box_of("next", "oslo", 5, "food")]]
        self.assert_refused(ship, cargo, ("rome", [(box_of("x", "oslo", 5, "food"), 0)]), 0, [
            ("high", 0), ("most", 0), ("bears", 0, 0), ("apart", 0, 0, 0, 1), ("apart", 0, 0, 1, 0),
        ])

    def test_none_at_the_first_step(self):
        self.assert_refused(DRY, [[], [], []], ("rome", [(OSLO[0], 0)]), 0, "none")
        # She lies level with the boxes on both sides, and no longer when one goes out.
        self.assert_refused(DRY, [ROME[:1], [], OSLO[:1]], ("rome", []), 0, "none")
        self.assert_refused(LEVEL, [[], [], []], ("rome", [(box_of("x", "oslo", 26), 0)]), 0, "none")

    def test_none_at_a_later_step(self):
        self.assert_refused(DRY, [[], [], []], ("rome", [(OSLO[0], 1), (OSLO[1], 0), (OSLO[2], 2)]), 1, "none")
        cargo = [[], [ROME[0], OSLO[0]], []]
        self.assert_refused(DRY, cargo, ("rome", [(OSLO[1], 1), (OSLO[2], 2)]), 4, "none")
        # 25 is just within what the tank can do.
        loads = [(box_of("x", "oslo", 25), 0), (box_of("y", "oslo", 1), 0)]
        self.assert_refused(LEVEL, [[], [], []], ("rome", loads), 1, "none")

    def test_none_while_boxes_stand_on_the_quay(self):
        # She is level ahead of the first step and would be behind the last one, but not between.
        cargo = [[ROME[0], OSLO[0]], [], [ROME[1], OSLO[1]]]
        for level in [cargo, [[OSLO[0]], [], [OSLO[1]]]]:
            self.assertEqual(ballast(DRY, level)[0], "fill")
        self.assert_refused(DRY, cargo, ("rome", []), 0, "none")

    def test_rules_go_ahead_of_a_mix(self):
        stacks = [("fore", -8, 0, 1, 2, 1, 900), ("aft", 8, 0, 1, 2, 1, 900)]
        ship = ((100, 0, 0, 0), (0, 0, 0, 0, 9, 999), stacks, [], [])
        cargo = [OSLO[:1], OSLO[1:2]]
        loads = [(OSLO[2], 0)]
        behind = [[OSLO[0], OSLO[2]], [OSLO[1]]]
        self.assertEqual(ballast(ship, behind)[0], "none")
        self.assert_refused(ship, cargo, ("rome", loads), 0, [("high", 0)])

    def test_the_first_step_decides_though_a_later_one_would_mend_it(self):
        loads = [(OSLO[0], 0), (OSLO[1], 2)]
        self.assert_refused(DRY, [[], [], []], ("rome", loads), 0, "none")
        low = [("fore", 0, 0, 0, 1, 1, 900)]
        ship = ((100, 0, 0, 0), WIDE, low, [], [])
        self.assert_refused(ship, [[OSLO[0], ROME[0], ROME[1]]], ("rome", []), 0, [("high", 0)])

    def test_told_is_the_askers_own(self):
        ship = ((100, 0, 0, 0), WIDE, [("fore", 0, 0, 0, 1, 1, 900)], [], [])
        told = called(ship, [OSLO[:1]], ("rome", [(OSLO[1], 0)]))
        told[2][1].clear()
        self.assert_refused(ship, [OSLO[:1]], ("rome", [(OSLO[1], 0)]), 0, [("high", 0)])
        told = called(DRY, [[], [], []], ("rome", [(OSLO[0], 0)]))
        told[2][1][0].clear()
        told[2][1][1].clear()
        self.assert_refused(DRY, [[], [], []], ("rome", [(OSLO[0], 0)]), 0, "none")


class RefusedByClass(unittest.TestCase):
    cargo = [[ROME[0], OSLO[0]], [], [ROME[1]]]

    def assert_refusal(self, call, refusal, ship=EASY, cargo=None):
        cargo = self.cargo if cargo is None else cargo
        before = repr((ship, cargo, call))
        with self.assertRaises(KeelError) as caught:
            called(ship, cargo, call)
        self.assertIs(type(caught.exception), refusal)
        self.assertEqual(repr((ship, cargo, call)), before)

    def assert_taken(self, call):
        self.assertEqual(called(EASY, self.cargo, call)[0], "done")

    def test_port(self):
        for port in NO_NAMES:
            with self.subTest(port=port):
                self.assert_refusal((port, []), NoName)
                self.assert_refusal((port, []), NoName, BARE, [])
        for port in ["a", "z", "abcdefgh", "rome", "none"]:
            self.assert_taken((port, []))

    def test_port_ahead_of_the_loads(self):
        wrong = [(OSLO[1], 3), (box_of("x", weight=0), 0), (box_of("x", bears=-1), 0)]
        for load in wrong:
            self.assert_refusal((None, [load]), NoName)
            self.assert_refusal(("Rome", [load]), NoName)

    def test_stack(self):
        for s in [-1, -2, -3, -4, 3, 4, -(10 ** 9), 10 ** 9]:
            with self.subTest(s=s):
                self.assert_refusal(("rome", [(OSLO[1], s)]), NoStack)
                self.assert_refusal(("rome", [(OSLO[1], 0), (OSLO[2], s)]), NoStack)
        for s in [0, 1, 2]:
            self.assert_taken(("rome", [(OSLO[1], s)]))
        for s in [-1, 0, 1]:
            self.assert_refusal(("rome", [(OSLO[1], s)]), NoStack, BARE, [])

    def test_names(self):
        for thing in NO_NAMES:
            with self.subTest(thing=thing):
                self.assert_refusal(("rome", [(box_of(thing), 0)]), NoName)
                self.assert_refusal(("rome", [(box_of("x", thing), 0)]), NoName)
                self.assert_refusal(("rome", [(box_of("x", kind=thing), 0)]), NoName)
        for name in ["a", "z", "abcdefgh", "rome", "fore", "coal"]:
            self.assert_taken(("rome", [(box_of(name), 0)]))
            self.assert_taken(("rome", [(box_of("x", name), 0)]))
            self.assert_taken(("rome", [(box_of("x", kind=name), 0)]))

    def test_weights(self):
        for weight in [0, -1, -(10 ** 9)]:
            self.assert_refusal(("rome", [(box_of("x", weight=weight), 0)]), NoWeight)
        for bears in [-1, -2, -(10 ** 9)]:
            self.assert_refusal(("rome", [(box_of("x", bears=bears), 0)]), NoWeight)
        self.assert_taken(("rome", [(box_of("x", weight=1), 0), (box_of("y", bears=0), 0)]))

    def test_name_of_a_box_of_the_cargo(self):
        # Those that go out at this very call have their names yet.
        for name in ["ra", "oa", "rb"]:
            for s in range(3):
                self.assert_refusal(("rome", [(box_of(name), s)]), NoName)
                self.assert_refusal(("bern", [(box_of(name), s)]), NoName)
                self.assert_refusal(("rome", [(box_of("x"), s), (box_of(name), s)]), NoName)

    def test_name_of_an_earlier_load(self):
        for s, other in itertools.product(range(3), repeat=2):
            self.assert_refusal(("rome", [(box_of("x"), s), (box_of("x", "oslo"), other)]), NoName)
            self.assert_refusal(("rome", [(box_of("x"), s), (box_of("y"), s), (box_of("x"), other)]), NoName)
            self.assert_taken(("rome", [(box_of("x"), s), (box_of("y"), other)]))

    def test_the_first_thing_wrong_decides(self):
        faults = [
            (5, 3, NoStack), (5, -1, NoStack), (0, "X", NoName), (0, None, NoName), (0, "oa", NoName),
            (0, "early", NoName), (1, 0, NoWeight), (2, "X", NoName), (2, None, NoName), (3, "X", NoName),
            (3, [], NoName), (4, -1, NoWeight),
        ]
        order = [5, 0, 1, 2, 3, 4]
        for several in itertools.chain(itertools.combinations(faults, 2), itertools.combinations(faults, 3)):
            parts = list(box_of("x")) + [0]
            for place, thing, refusal in several:
                parts[place] = thing
            left = [fault for fault in several if parts[fault[0]] == fault[1]]
            first = min(left, key=lambda fault: order.index(fault[0]))
            load = (tuple(parts[:5]), parts[5])
            with self.subTest(load=load):
                self.assert_refusal(("rome", [(box_of("early"), 0), load]), first[2])

    def test_load_by_load(self):
        wrong = [((OSLO[1], 3), NoStack), ((box_of(None), 0), NoName), ((box_of("x", weight=0), 0), NoWeight),
                 ((box_of("x", None), 0), NoName), ((box_of("x", kind=None), 0), NoName),
                 ((box_of("x", bears=-1), 0), NoWeight)]
        for (load, refusal), (other, _) in itertools.permutations(wrong, 2):
            self.assert_refusal(("rome", [load, other]), refusal)
            self.assert_refusal(("rome", [(box_of("y"), 0), load, other]), refusal)

    def test_ahead_of_the_steps(self):
        # The first step would be refused, but the loads are looked at first.
        self.assert_refusal(("rome", [(OSLO[0], 0), (OSLO[1], 3)]), NoStack, DRY, [[], [], []])
        ship = ((100, 0, 0, 0), WIDE, [("fore", 0, 0, 0, 1, 1, 900)], [], [])
        self.assert_refusal(("rome", [(box_of("x", weight=0), 0)]), NoWeight, ship, [[OSLO[0], ROME[0], ROME[1]]])


class ManyCalls(CalledCase):
    def test_many_ships(self):
        state = 7

        def drawn(low, high):
            nonlocal state
            state = (state * 6364136223846793005 + 1442695040888963407) % 2 ** 64
            return low + (state >> 33) % (high - low + 1)

        def drawn_box(name):
            port = ["rome", "oslo", "bern"][drawn(0, 2)]
            return (name, drawn(1, 9), port, ["acid", "food", "coal"][drawn(0, 2)], drawn(3, 40))

        told = {"done": 0, "broken": 0, "none": 0}
        later = 0
        for number in range(400):
            stacks = [(name, drawn(-9, 9), drawn(-4, 4), drawn(0, 2), drawn(1, 2), drawn(2, 5), drawn(9, 60))
                      for name in "abcdef"[:drawn(1, 6)]]
            tanks = [(name, drawn(-9, 9), drawn(-6, 6), drawn(-3, 3), drawn(1, 30)) for name in "abcd"[:drawn(1, 4)]]
            bounds = (-drawn(0, 2), drawn(0, 2), -drawn(0, 2), drawn(0, 2), drawn(1, 4), drawn(60, 200))
            apart = [("acid", "food", drawn(1, 5))][:drawn(0, 1)]
            ship = ((drawn(20, 60), 0, 0, 0), bounds, stacks, tanks, apart)
            names = iter("abcdefghijklmnopqrstuvwx")
            cargo = [[drawn_box(next(names)) for _ in range(drawn(0, 2))] for _ in stacks]
            loads = [(drawn_box(next(names)), drawn(0, len(stacks) - 1)) for _ in range(drawn(0, 3))]
            with self.subTest(number=number):
                answer = self.told_of(ship, cargo, ("rome", loads))
                told[answer[0] if answer[0] == "done" else answer[2][0]] += 1
                later += answer[0] == "refused" and answer[1] > 0
        self.assertGreater(min(told.values()), 30)
        self.assertGreater(later, 30)


if __name__ == "__main__":
    unittest.main()
