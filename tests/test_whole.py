"""Points 2, 3 and 4 over the whole program."""

import copy
import unittest
from fractions import Fraction

from keel.advice import overstanding, stack_for, stowed
from keel.ballast import ballast, breaking, within
from keel.calls import called, moved_at, stepped, steps_of
from keel.cargoes import broken, right_cargo
from keel.checks import mix_shows, prices_show, right_fills
from keel.desk import Desk
from keel.errors import KeelError, NoDeed, NoLine, NoName, NoStack, NoWeight
from keel.fractions import fraction, minus, plus, times, under
from keel.least import least
from keel.ships import apart_by, right_ship
from keel.shiptexts import read_ship, shown_ship
from keel.voyages import voyage
from keel.weights import middle, rows_of, weights

SHIP = (
    (100, 0, 0, 0),
    (0, 0, 0, 0, 9, 999),
    [("fore", -8, 0, 1, 2, 3, 900), ("mid", 0, 0, 1, 2, 3, 900), ("aft", 8, 0, 1, 2, 3, 900)],
    [("bow", -10, 0, 0, 20), ("stern", 10, 0, 0, 20)],
    [("acid", "food", 9)],
)
CARGO = [
    [("one", 5, "rome", "coal", 90), ("two", 4, "oslo", "coal", 90)],
    [("three", 7, "bern", "acid", 90)],
    [("four", 5, "oslo", "coal", 90)],
]
NEW = ("new", 3, "rome", "coal", 9)
NEXT = ("next", 3, "bern", "coal", 9)
CALLS = [("rome", [(NEW, 2)]), ("oslo", []), ("rome", []), ("bern", [(NEXT, 1)])]
PORTS = ["rome", "oslo", "bern"]


def placed(ship, cargo):
    """Weights and where their middles lie, of her own and of all boxes."""
    things = [(ship[0][0], ship[0][1:])]
    for stack, boxes in zip(ship[2], cargo):
        height = stack[3]
        for box in boxes:
            things.append((box[1], (stack[1], stack[2], height)))
            height += stack[4]
    return things


def lies_within(ship, cargo, fills):
    """Told straight from the meaning: by the middle of all weight, water too."""
    if any(not 0 <= fill <= tank[4] for fill, tank in zip(fills, ship[3])):
        return False
    things = placed(ship, cargo) + [(fill, tank[1:4]) for fill, tank in zip(fills, ship[3])]
    weight = sum(one for one, place in things)
    along, across, above = [Fraction(sum(one * place[axis] for one, place in things)) / weight for axis in range(3)]
    bounds = ship[1]
    return (bounds[0] <= along <= bounds[1] and bounds[2] <= across <= bounds[3] and above <= bounds[4]
            and weight <= bounds[5])


def breaks_a_rule(ship, cargo):
    for stack, boxes in zip(ship[2], cargo):
        if len(boxes) > stack[5] or sum(box[1] for box in boxes) > stack[6]:
            return True
        if any(sum(upper[1] for upper in boxes[t + 1:]) > box[4] for t, box in enumerate(boxes)):
            return True
    boxes = [(box[3], stack[1], stack[2]) for stack, there in zip(ship[2], cargo) for box in there]
    for number, one in enumerate(boxes):
        for other in boxes[number + 1:]:
            far = max([row[2] for row in ship[4] if sorted(row[:2]) == sorted([one[0], other[0]])], default=0)
            if abs(one[1] - other[1]) + abs(one[2] - other[2]) < far:
                return True
    return False


def tidied(mix):
    return [[Fraction(*part) for part in side] for side in mix]


def tops_of(ship, cargo):
    """How far each row lets the water go, told straight: first what it takes for each tank, then the top."""
    things = placed(ship, cargo)
    weight = sum(one for one, place in things)
    sums = [sum(one * place[axis] for one, place in things) for axis in range(3)]
    bounds = ship[1]
    rows = []
    for axis, low, high in [(0, bounds[0], bounds[1]), (1, bounds[2], bounds[3]), (2, None, bounds[4])]:
        rows.append(([tank[axis + 1] - high for tank in ship[3]], high * weight - sums[axis]))
        if low is not None:
            rows.append(([low - tank[axis + 1] for tank in ship[3]], sums[axis] - low * weight))
    rows.append(([1] * len(ship[3]), bounds[5] - weight))
    return rows


def comes_to(rows, rooms, mix):
    """What the mix makes of the rows and rooms: a number for each tank, and one for the tops."""
    parts, room_parts = tidied(mix)
    tanks = [sum(row[tank] * part for (row, top), part in zip(rows, parts)) + room_parts[tank]
             for tank in range(len(rooms))]
    tops = sum(top * part for (row, top), part in zip(rows, parts))
    return tanks, tops + sum(room * part for room, part in zip(rooms, room_parts))


class Drawn:
    """Numbers that look drawn, the same ones each time."""

    def __init__(self, state):
        self.state = state

    def number(self, low, high):
        self.state = (self.state * 6364136223846793005 + 1442695040888963407) % 2 ** 64
        return low + (self.state >> 33) % (high - low + 1)

    def one_of(self, things):
        return things[self.number(0, len(things) - 1)]

    def box(self, name):
        return (name, self.number(1, 6), self.one_of(["rome", "oslo", "bern", "kiel"]),
                self.one_of(["acid", "food", "coal"]), self.number(4, 30))

    def text(self):
        lines = [f"own {self.number(60, 120)} 0 0 0",
                 f"bounds {-self.number(0, 2)} {self.number(0, 2)} {-self.number(0, 2)} {self.number(0, 2)}"
                 f" {self.number(1, 4)} {self.number(140, 300)}"]
        for name in ["fore", "mid", "aft", "port", "star", "low"][:self.number(2, 6)]:
            lines.append(f"stack {name} {self.number(-9, 9)} {self.number(-4, 4)} {self.number(0, 2)}"
                         f" {self.number(1, 2)} {self.number(2, 5)} {self.number(12, 40)}")
        for name in ["bow", "stern", "left", "right"][:self.number(0, 4)]:
            lines.append(f"tank {name} {self.number(-12, 12)} {self.number(-6, 6)} {self.number(-3, 1)}"
                         f" {self.number(5, 40)}")
        for _ in range(self.number(0, 2)):
            lines.append(f"apart {self.one_of(['acid', 'food'])} {self.one_of(['acid', 'food'])} {self.number(1, 6)}")
        return "\n".join(lines)


class Promise(unittest.TestCase):
    def assert_upright(self, ship, cargo, fills):
        """She lies within, and the prices of the ballast show that no smaller sum does."""
        reached = [Fraction(*fill) for fill in fills]
        self.assertFalse(breaks_a_rule(ship, cargo))
        self.assertTrue(lies_within(ship, cargo, reached))
        told = ballast(ship, cargo)
        self.assertEqual(told[0], "fill")
        rows, rooms = tops_of(ship, cargo), [tank[4] for tank in ship[3]]
        self.assertTrue(all(part >= 0 for side in tidied(told[2]) for part in side))
        tanks, tops = comes_to(rows, rooms, told[2])
        self.assertTrue(all(1 + number >= 0 for number in tanks))
        self.assertEqual(sum(reached) + tops, 0)

    def assert_refused_for(self, ship, cargo, why):
        if why[0] == "broken":
            self.assertTrue(breaks_a_rule(ship, cargo))
            self.assertEqual(why[1], broken(ship, cargo))
            return
        self.assertEqual(why[0], "none")
        self.assertFalse(breaks_a_rule(ship, cargo))
        rows, rooms = tops_of(ship, cargo), [tank[4] for tank in ship[3]]
        self.assertTrue(all(part >= 0 for side in tidied(why[1]) for part in side))
        tanks, tops = comes_to(rows, rooms, why[1])
        self.assertTrue(all(number >= 0 for number in tanks))
        self.assertLess(tops, 0)

    def walked(self, cargo, call):
        """The cargo behind each step, by the words of 4 and 21."""
        cargoes = []
        behind = [list(boxes) for boxes in cargo]
        for s, boxes in enumerate(cargo):
            quay = []
            while any(box[2] == call[0] for box in behind[s]):
                quay.append(behind[s].pop())
                cargoes.append(copy.deepcopy(behind))
            for box in reversed(quay):
                if box[2] != call[0]:
                    behind[s].append(box)
                    cargoes.append(copy.deepcopy(behind))
        for box, s in call[1]:
            behind[s].append(box)
            cargoes.append(copy.deepcopy(behind))
        return cargoes

    def assert_call(self, ship, cargo, call, outcome):
        cargoes = self.walked(cargo, call)
        if outcome[0] == "refused":
            for behind in cargoes[:outcome[1]]:
                self.assertFalse(breaks_a_rule(ship, behind))
                self.assertEqual(ballast(ship, behind)[0], "fill")
            self.assert_refused_for(ship, cargoes[outcome[1]], outcome[2])
            return
        self.assertEqual(len(outcome[2]), len(cargoes))
        for (step, fills), behind in zip(outcome[2], cargoes):
            self.assert_upright(ship, behind, fills)
        self.assertEqual(outcome[1], (cargoes or [cargo])[-1])
        self.assert_moved(cargo, call, outcome)

    def assert_moved(self, cargo, call, outcome):
        out = [[box for box in boxes if box[2] != call[0]] for boxes in cargo]
        for box, s in call[1]:
            out[s].append(box)
        self.assertEqual(outcome[1], out)
        stood_above = []
        for boxes in cargo:
            for t, box in enumerate(boxes):
                if box[2] != call[0] and any(lower[2] == call[0] for lower in boxes[:t]):
                    stood_above.append(box[0])
        self.assertEqual(outcome[3], stood_above)

    def assert_desk(self, text, calls, told):
        """A desk goes the same way."""
        desk = Desk(text)
        for call, outcome in zip(calls, told):
            for box, s in call[1]:
                stack = read_ship(text)[0][2][s][0]
                self.assertEqual(desk.say("load " + " ".join(str(part) for part in box) + " " + stack), "ok")
            answer = desk.say("call " + call[0])
            if outcome[0] == "done":
                self.assertEqual(answer, f"done {len(outcome[3])}")
                shown = shown_ship(read_ship(text)[0], outcome[1])
                self.assertEqual(desk.say("show"), shown.replace("\n", ", "))
            else:
                self.assertEqual(answer, f"refused {outcome[1]} {outcome[2][0]}")

    def stow(self, ship, boxes):
        """All boxes for which there is a stack, one after the other."""
        cargo = [[] for stack in ship[2]]
        for box in boxes:
            try:
                cargo = stowed(ship, cargo, [box], PORTS)
            except NoStack:
                continue
            self.assertFalse(breaks_a_rule(ship, cargo))
            self.assertEqual(ballast(ship, cargo)[0], "fill")
        return cargo

    def test_whole_voyages(self):
        counts = {"done": 0, "moved": 0, "broken": 0, "none": 0, "steps": 0}
        for seed in range(120):
            drawn = Drawn(seed)
            ship, cargo = read_ship(drawn.text())
            cargo = self.stow(ship, [drawn.box(name) for name in "abcdefghijklm"])
            text = shown_ship(ship, cargo)
            self.assertEqual(read_ship(text), (ship, cargo))
            names = iter("nopqrstuvwx")
            calls = []
            for _ in range(6):
                loads = [(drawn.box(next(names)), drawn.number(0, len(ship[2]) - 1))
                         for _ in range(drawn.number(0, 3) // 2)]
                calls.append((drawn.one_of(["rome", "oslo", "bern", "kiel", "riga"]), loads))
            with self.subTest(seed=seed):
                told = voyage(ship, cargo, calls)
                self.assert_desk(text, calls, told)
                for call, outcome in zip(calls, told):
                    self.assert_call(ship, cargo, call, outcome)
                    if outcome[0] == "done":
                        cargo = outcome[1]
                        self.assertTrue(right_cargo(ship, cargo))
                        self.assertEqual(read_ship(shown_ship(ship, cargo)), (ship, cargo))
                        counts["moved"] += len(outcome[3])
                        counts["steps"] += len(outcome[2])
                    counts[outcome[0] if outcome[0] == "done" else outcome[2][0]] += 1
                self.assertTrue(told[-1][0] == "refused" or len(told) == len(calls))
        self.assertGreater(min(counts.values()), 15, counts)

    def test_she_goes_out_empty_at_the_end(self):
        # With room on all sides every call is done, and each box goes out at its port.
        text = "own 100 0 0 0\nbounds -99 99 -99 99 99 9999\nstack a 0 0 0 1 9 999\nstack b 1 0 0 1 9 999"
        for seed in range(20):
            drawn = Drawn(seed)
            ship, cargo = read_ship(text)
            boxes = [drawn.box(name)[:4] + (900,) for name in "abcdefghijkl"]
            cargo = stowed(ship, cargo, boxes, PORTS)
            self.assertEqual(sorted(box for stack in cargo for box in stack), sorted(boxes))
            ports = ["oslo", "kiel", "rome", "bern"]
            told = voyage(ship, cargo, [(port, []) for port in ports])
            for call, outcome in zip(ports, told):
                self.assert_call(ship, cargo, (call, []), outcome)
                cargo = outcome[1]
            self.assertEqual(cargo, [[], []])
            self.assertEqual(shown_ship(ship, cargo), text)

    def test_stowed_for_the_ports_to_come_nothing_is_moved(self):
        # There are as many stacks as ports, so that no box needs to stand over an earlier one.
        stacks = "".join(f"\nstack {name} 0 0 0 1 9 999" for name in "abcd")
        ship, cargo = read_ship("own 100 0 0 0\nbounds -99 99 -99 99 99 9999" + stacks)
        for seed in range(20):
            drawn = Drawn(seed)
            ports = ["rome", "oslo", "bern", "kiel"]
            boxes = [drawn.box(name)[:4] + (900,) for name in "abcdefghi"]
            told = voyage(ship, stowed(ship, cargo, boxes, ports), [(port, []) for port in ports])
            self.assertEqual([outcome[3] for outcome in told], [[]] * 4)


def asked():
    """Each function of the interface that is handed or tells a list, with what is handed in."""
    fills = [(1, 2), (3, 1)]
    rows, rooms = rows_of(SHIP, CARGO), [20, 20]
    prices = ballast(SHIP, CARGO)[2]
    bent = [[NEW[:1] + (90,) + NEW[2:]], [], []]
    mix = ballast(SHIP, bent)[1]
    return [
        (right_ship, (SHIP,)), (apart_by, (SHIP, 0, 2)), (right_cargo, (SHIP, CARGO)), (broken, (SHIP, CARGO)),
        (broken, (SHIP, [CARGO[0] + CARGO[1] + CARGO[2], [], []])), (weights, (SHIP, CARGO)),
        (rows_of, (SHIP, CARGO)), (middle, (SHIP, CARGO, fills)), (shown_ship, (SHIP, CARGO)),
        (read_ship, (shown_ship(SHIP, CARGO),)), (right_fills, (rows, rooms, fills)),
        (prices_show, (rows, rooms, fills, prices)), (mix_shows, (rows, rooms, mix)), (least, (rows, rooms)),
        (ballast, (SHIP, CARGO)), (ballast, (SHIP, bent)), (breaking, (mix,)), (within, (SHIP, CARGO, fills)),
        (steps_of, (CARGO, CALLS[0])), (moved_at, (CARGO, CALLS[0])), (stepped, (CARGO, ("off", 0, "two"), None)),
        (stepped, (CARGO, ("on", 1, "new"), NEW)), (called, (SHIP, CARGO, CALLS[0])),
        (called, (SHIP, CARGO, ("rome", [(NEW[:1] + (999,) + NEW[2:], 0)]))),
        (called, (SHIP, CARGO, ("rome", [(NEW[:1] + (90,) + NEW[2:4] + (0,), 2)]))),
        (called, (SHIP, CARGO, ("riga", []))), (voyage, (SHIP, CARGO, CALLS)), (voyage, (SHIP, CARGO, [])),
        (overstanding, (CARGO, 0, NEW, PORTS)), (stack_for, (SHIP, CARGO, NEW, PORTS)),
        (stowed, (SHIP, CARGO, [NEW, NEXT], PORTS)), (stowed, (SHIP, CARGO, [], PORTS)),
        (plus, ((1, 2), (1, 3))), (minus, ((1, 2), (1, 3))), (times, ((1, 2), (1, 3))), (under, ((1, 2), (1, 3))),
        (fraction, (4, 6)),
    ]


def lists_within(thing):
    """All lists within, each told once however often it is met there."""
    found = [thing] if isinstance(thing, list) else []
    if isinstance(thing, (list, tuple)):
        for part in thing:
            found.extend(one for one in lists_within(part) if not any(one is other for other in found))
    return found


PLAIN = (int, str, bool, type(None), list, tuple)


def is_plain(thing):
    if type(thing) not in PLAIN:
        return False
    return all(is_plain(part) for part in thing) if isinstance(thing, (list, tuple)) else True


class NothingIsChanged(unittest.TestCase):
    def test_what_is_handed_in_stays(self):
        for function, handed in asked():
            with self.subTest(function=function.__name__):
                before = repr(handed)
                function(*handed)
                self.assertEqual(repr(handed), before)

    def test_plain_kinds_are_told(self):
        for function, handed in asked():
            with self.subTest(function=function.__name__):
                self.assertTrue(is_plain(function(*handed)))

    def test_what_is_told_shares_no_list_with_what_is_handed_in(self):
        for function, handed in asked():
            with self.subTest(function=function.__name__):
                told = function(*handed)
                for one in lists_within(told):
                    self.assertFalse(any(one is other for other in lists_within(handed)))

    def test_what_is_told_has_each_list_once(self):
        # Were one list met twice in it, what is done to the one would change the other.
        for function, handed in asked():
            with self.subTest(function=function.__name__):
                told = function(*handed)
                unshared = copy.deepcopy(told)
                count = repr(told).count("[")
                self.assertEqual(len(lists_within(told)), count)
                self.assertEqual(told, unshared)

    def test_what_is_done_to_what_is_told_changes_nothing(self):
        for function, handed in asked():
            with self.subTest(function=function.__name__):
                before = repr(handed)
                wanted = copy.deepcopy(function(*handed))
                for one in lists_within(function(*handed)):
                    one.append("something")
                    one.reverse()
                self.assertEqual(repr(handed), before)
                # Of any prices and any mix it is not promised that they are told again.
                if function not in (least, ballast) and "none" not in repr(wanted):
                    self.assertEqual(function(*handed), wanted)

    def test_what_is_done_to_what_was_handed_in_changes_nothing_told(self):
        for function, handed in asked():
            with self.subTest(function=function.__name__):
                handed = copy.deepcopy(handed)
                told = function(*handed)
                wanted = copy.deepcopy(told)
                for one in lists_within(handed):
                    one.clear()
                self.assertEqual(told, wanted)

    def test_what_is_asked_later_changes_nothing_told(self):
        told = [function(*handed) for function, handed in asked()]
        wanted = copy.deepcopy(told)
        for function, handed in reversed(asked()):
            function(*handed)
        self.assertEqual(told, wanted)

    def test_what_is_refused_changes_nothing(self):
        wrong = NEW[:1] + (0,) + NEW[2:]
        for function, handed, refusal in [
            (right_ship, (((0, 0, 0, 0),) + SHIP[1:],), NoWeight), (right_cargo, (SHIP, CARGO[:2]), NoStack),
            (right_cargo, (SHIP, CARGO[:2] + [[wrong]]), NoWeight),
            (called, (SHIP, CARGO, ("rome", [(NEW, 0), (wrong, 1)])), NoName),
            (called, (SHIP, CARGO, ("rome", [(NEXT, 0), (wrong, 1)])), NoWeight),
            (called, (SHIP, CARGO, ("Rome", [(NEW, 0)])), NoName),
            (voyage, (SHIP, CARGO, CALLS + [("rome", [(NEW, 3)])]), NoStack),
            (stack_for, (SHIP, CARGO, wrong, PORTS), NoWeight),
            (stowed, (SHIP, CARGO, [NEW, NEXT, wrong], PORTS), NoName),
            (stowed, (SHIP, CARGO, [NEXT, wrong], PORTS), NoWeight),
        ]:
            with self.subTest(function=function.__name__, refusal=refusal.__name__):
                before = repr(handed)
                with self.assertRaises(KeelError) as caught:
                    function(*handed)
                self.assertIs(type(caught.exception), refusal)
                self.assertEqual(repr(handed), before)

    def test_desks_go_on_behind_refusals(self):
        desk = Desk(shown_ship(SHIP, CARGO))
        self.assertEqual(desk.say("load new 3 rome coal 9 aft"), "ok")
        steps, shown = desk.say("steps rome"), desk.say("show")
        for line, refusal in [("load new 3 rome coal 9 aft", NoName), ("load x 3 rome coal 9 hold", NoStack),
                              ("load x 0 rome coal 9 aft", NoWeight), ("call Rome", NoName), ("steps 1", NoName),
                              ("ports rome A", NoName), ("advise one 1 rome coal 0", NoName), ("", NoDeed),
                              ("advise x 9999 rome coal 0", NoStack), ("call", NoDeed), ("load", NoDeed)]:
            with self.assertRaises(KeelError) as caught:
                desk.say(line)
            self.assertIs(type(caught.exception), refusal)
            self.assertEqual((desk.say("steps rome"), desk.say("show")), (steps, shown))
        with self.assertRaises(NoLine):
            Desk("nothing")
        self.assertEqual(desk.say("call rome"), "done 1")
        self.assertEqual(desk.say("where new"), "aft 1")


if __name__ == "__main__":
    unittest.main()
