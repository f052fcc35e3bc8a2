"""Point 28."""

import itertools
import unittest

from keel.ballast import ballast, within
from keel.checks import prices_show
from keel.desk import Desk
from keel.errors import KeelError, NoBounds, NoDeed, NoLine, NoName, NoSize, NoStack, NoWeight
from keel.shiptexts import read_ship, shown_ship
from keel.weights import middle, rows_of

LINES = [
    "own 100 5 0 3",
    "bounds -10 3 -2 2 9 1000",
    "stack fore -8 1 2 3 4 50",
    "stack mid 0 0 2 3 2 60",
    "stack aft 9 -1 2 3 4 70",
    "tank peak -12 0 1 20",
    "tank well 10 0 1 20",
    "apart acid food 5",
    "box fore one 20 rome acid 90",
    "box fore two 10 oslo coal 50",
    "box aft three 6 rome food 0",
]
TEXT = "\n".join(LINES)
# She lies at 0 along with what is in her, and has to: any box on one side alone asks for water.
LEVEL_LINES = [
    "own 100 0 0 0",
    "bounds 0 0 0 0 9 999",
    "stack fore -8 0 1 2 3 900",
    "stack mid 0 0 1 2 3 900",
    "stack aft 8 0 1 2 3 900",
    "tank bow -10 0 0 20",
    "tank stern 10 0 0 20",
]
LEVEL = "\n".join(LEVEL_LINES)
DRY = "\n".join(LEVEL_LINES[:5])
BARE = "own 1 0 0 0\nbounds 0 0 0 0 0 1"
EASY = "\n".join(["own 100 0 0 0", "bounds -99 99 -99 99 99 9999"]
                 + [line.replace(" 3 900", " 5 900") for line in LEVEL_LINES[2:5]])

NO_NAMES = ["abcdefghi", "A", "Rome", "a1", "1", "-5", "a,", "`", "{", "rome,oslo", "None", "abcdefghijklmnop"]
NO_NUMBERS = ["five", "1a", "+1", "01", "-01", "00", "-0", "-", "--1", "1.0", "1/2", "12345678901", "-12345678901",
              "00000000001", "0x1", "1_0", "1e3", "True", "None"]

# Whatever can be asked without changing anything.
ASKED = ["weigh", "rules", "trim", "middle", "show", "steps rome", "steps oslo", "steps bern", "steps kiel",
         "where one", "where two", "where three", "where new", "where other", "advise probe 1 oslo coal 0"]


def boxed(text, *boxes):
    return "\n".join([text] + ["box " + box for box in boxes])


def parsed(word):
    """The fraction that is written so."""
    top, stroke, bottom = word.partition("/")
    return (int(top), int(bottom) if stroke else 1)


class DeskCase(unittest.TestCase):
    def assert_said(self, desk, line, wanted):
        told = desk.say(line)
        self.assertIs(type(told), str)
        self.assertEqual(told, wanted)

    def answers(self, desk):
        told = []
        for line in ASKED:
            try:
                told.append(desk.say(line))
            except KeelError as refusal:
                told.append(type(refusal).__name__)
        return told

    def assert_refusal(self, desk, line, refusal):
        before = self.answers(desk)
        with self.assertRaises(KeelError) as caught:
            desk.say(line)
        self.assertIs(type(caught.exception), refusal)
        self.assertEqual(self.answers(desk), before)


class Made(DeskCase):
    def test_made_of_a_text(self):
        for text in [TEXT, LEVEL, DRY, BARE, EASY]:
            self.assertEqual(Desk(text).say("show"), text.replace("\n", ", "))

    def test_refused(self):
        for text, refusal in [
            ("", NoLine), ("own 1 0 0 0", NoLine), (BARE + "\n", NoLine), (BARE + "\nbox", NoLine),
            (TEXT.replace("own 100", "own 0"), NoWeight), (TEXT.replace("-10 3", "4 3"), NoBounds),
            (TEXT.replace("2 9 1000", "2 9 0"), NoSize), (TEXT.replace("stack mid", "stack fore"), NoName),
            (TEXT.replace("tank well", "tank Well"), NoName), (TEXT.replace("food 5", "food 0"), NoSize),
            (boxed(TEXT, "hold x 1 rome coal 0"), NoStack), (boxed(TEXT, "mid one 1 rome coal 0"), NoName),
            (boxed(TEXT, "mid x 0 rome coal 0"), NoWeight), (boxed(TEXT, "mid x 1 rome coal -1"), NoWeight),
        ]:
            with self.subTest(text=text), self.assertRaises(KeelError) as caught:
                Desk(text)
            self.assertIs(type(caught.exception), refusal)

    def test_the_line_of_the_text_is_told(self):
        for number in range(len(LINES)):
            with self.assertRaises(NoLine) as caught:
                Desk("\n".join(LINES[:number] + ["nothing"] + LINES[number:]))
            self.assertEqual(caught.exception.line, number)


class Weigh(DeskCase):
    def test_weights(self):
        self.assert_said(Desk(TEXT), "weigh", "136 314 24 402")
        self.assert_said(Desk(LEVEL), "weigh", "100 0 0 0")
        self.assert_said(Desk(BARE), "weigh", "1 0 0 0")
        self.assert_said(Desk("own 7 -3 -2 -1\nbounds 0 0 0 0 0 1"), "weigh", "7 -21 -14 -7")

    def test_kept_loads_weigh_nothing(self):
        desk = Desk(EASY)
        desk.say("load new 5 rome coal 0 fore")
        self.assert_said(desk, "weigh", "100 0 0 0")
        desk.say("call oslo")
        self.assert_said(desk, "weigh", "105 -40 0 5")


class Rules(DeskCase):
    def test_none(self):
        for text in [TEXT, LEVEL, BARE]:
            self.assert_said(Desk(text), "rules", "none")

    def test_one(self):
        self.assert_said(Desk(boxed(TEXT, "aft x 1 rome coal 0")), "rules", "bears 2 0")
        self.assert_said(Desk(boxed(TEXT, "mid x 61 rome coal 0")), "rules", "most 1")
        self.assert_said(Desk(boxed(TEXT, "fore x 1 rome food 0")), "rules", "apart 0 0 0 2")

    def test_several(self):
        text = boxed(TEXT, "mid x 40 oslo acid 5", "mid y 50 oslo coal 2", "mid z 3 oslo food 2")
        self.assert_said(Desk(text), "rules",
                         "high 1, most 1, bears 1 0, bears 1 1, apart 1 0 1 2")

    def test_behind_a_call(self):
        desk = Desk(boxed(TEXT, "aft x 1 kiel coal 0"))
        self.assert_said(desk, "call kiel", "done 0")
        self.assert_said(desk, "rules", "none")


class TrimAndMiddle(DeskCase):
    def assert_fills(self, text, desk=None):
        """The told fills are right and the least."""
        desk = Desk(text) if desk is None else desk
        ship, cargo = read_ship(desk.say("show").replace(", ", "\n"))
        words = desk.say("trim").split(" ")
        self.assertEqual(words[0], "fill")
        fills = [parsed(word) for word in words[1:]]
        self.assertEqual(len(fills), len(ship[3]))
        self.assertTrue(within(ship, cargo, fills))
        rows, rooms = rows_of(ship, cargo), [tank[4] for tank in ship[3]]
        self.assertTrue(prices_show(rows, rooms, fills, ballast(ship, cargo)[2]))

    def test_whole_fills(self):
        self.assert_said(Desk(LEVEL), "trim", "fill 0 0")
        self.assert_said(Desk(boxed(LEVEL, "fore a 5 rome coal 0")), "trim", "fill 0 4")
        self.assert_said(Desk(boxed(LEVEL, "aft a 5 rome coal 0")), "trim", "fill 4 0")
        self.assert_said(Desk(LEVEL), "middle", "middle 0 0 0")

    def test_fills_with_another_bottom(self):
        self.assert_said(Desk(boxed(LEVEL, "fore a 1 rome coal 0")), "trim", "fill 0 4/5")
        self.assert_said(Desk(boxed(LEVEL, "aft a 7 rome coal 0")), "trim", "fill 28/5 0")
        self.assert_said(Desk(boxed(LEVEL, "aft a 25 rome coal 0")), "trim", "fill 20 0")

    def test_one_tank(self):
        text = "own 10 4 0 0\nbounds -9 2 -9 9 9 99\ntank bow -10 0 0 30"
        self.assert_said(Desk(text), "trim", "fill 5/3")
        self.assert_said(Desk(text), "middle", "middle 2 0 0")

    def test_without_tanks(self):
        for text in [DRY, EASY, BARE]:
            self.assert_said(Desk(text), "trim", "fill")
            self.assert_said(Desk(text), "middle", "middle 0 0 0")

    def test_middles(self):
        text = "own 3 4 -5 -7\nbounds -9 9 -9 9 9 99\nstack one 1 2 3 1 2 9"
        self.assert_said(Desk(text), "middle", "middle 4 -5 -7")
        self.assert_said(Desk(boxed(text, "one a 1 rome coal 0")), "middle", "middle 13/4 -13/4 -9/2")
        self.assert_said(Desk(boxed(text, "one a 3 rome coal 0")), "middle", "middle 5/2 -3/2 -2")

    def test_where_several_fills_do(self):
        text = LEVEL + "\ntank other -10 0 -3 20\ntank next 10 0 -3 20"
        for box in ["aft a 5 rome coal 0", "aft a 13 rome coal 0", "fore a 7 rome coal 0", "mid a 7 rome coal 0"]:
            self.assert_fills(boxed(text, box))
            desk = Desk(boxed(text, box))
            words = desk.say("middle").split(" ")
            self.assertEqual((len(words), words[:3]), (4, ["middle", "0", "0"]))
            ship, cargo = read_ship(boxed(text, box))
            # What lies above hangs on which of the tanks are taken.
            low = middle(ship, cargo, [(0, 1), (0, 1)] + ballast(read_ship(boxed(LEVEL, box))[0], cargo)[1])[2]
            high = middle(ship, cargo, ballast(read_ship(boxed(LEVEL, box))[0], cargo)[1] + [(0, 1), (0, 1)])[2]
            told = parsed(words[3])
            self.assertLessEqual(low[0] * told[1], told[0] * low[1])
            self.assertLessEqual(told[0] * high[1], high[0] * told[1])

    def assert_none(self, text, needed):
        """A mix may hold any bounds beside those that are needed, of which there may be a choice."""
        for line in ["trim", "middle"]:
            words = Desk(text).say(line).split(" ")
            self.assertEqual(words[0], "none")
            bounds = [int(word) for word in words[1:]]
            self.assertEqual(words[1:], [str(number) for number in sorted(set(bounds))])
            self.assertLessEqual(set(bounds), set(range(6)))
            self.assertTrue(any(set(some) <= set(bounds) for some in needed))

    def test_none_and_the_bounds_that_break(self):
        self.assert_none("own 10 4 0 0\nbounds -9 3 -9 9 9 99", [[0]])
        self.assert_none("own 10 -4 0 0\nbounds -3 9 -9 9 9 99", [[1]])
        self.assert_none("own 10 0 4 0\nbounds -9 9 -9 3 9 99", [[2]])
        self.assert_none("own 10 0 -4 0\nbounds -9 9 -3 9 9 99", [[3]])
        self.assert_none("own 10 0 0 4\nbounds -9 9 -9 9 3 99", [[4]])
        self.assert_none("own 10 0 0 0\nbounds -9 9 -9 9 9 9", [[5]])
        self.assert_none("own 10 4 0 0\nbounds -90 3 -9 1 9 99\ntank a -7 20 0 50", [[0, 2]])
        self.assert_none("own 10 4 0 0\nbounds -9 2 -9 9 9 11\ntank a -8 0 0 9", [[0, 5]])
        self.assert_none(boxed(LEVEL, "fore a 26 rome coal 0"), [[1]])
        self.assert_none(boxed(LEVEL, "aft a 26 rome coal 0"), [[0]])

    def test_none_where_several_bounds_are_passed(self):
        self.assert_none("own 10 4 -4 4\nbounds -9 3 -3 9 3 9", [[0], [3], [4], [5]])

    def test_behind_a_call(self):
        desk = Desk(boxed(LEVEL, "fore a 5 rome coal 0", "aft b 5 oslo coal 0"))
        self.assert_said(desk, "trim", "fill 0 0")
        self.assert_said(desk, "call rome", "done 0")
        self.assert_said(desk, "trim", "fill 4 0")
        self.assert_fills(None, desk)


class Ports(DeskCase):
    def test_kept(self):
        desk = Desk(boxed(EASY, "fore a 5 rome coal 90"))
        ask = "advise new 1 oslo coal 0"
        # At first there are none, so that the box is overstanding nowhere.
        self.assert_said(desk, ask, "fore")
        self.assert_said(desk, "ports rome oslo", "ok")
        self.assert_said(desk, ask, "mid")
        self.assert_said(desk, "ports oslo rome", "ok")
        self.assert_said(desk, ask, "fore")
        self.assert_said(desk, "ports rome", "ok")
        self.assert_said(desk, ask, "mid")
        self.assert_said(desk, "ports oslo", "ok")
        self.assert_said(desk, ask, "fore")

    def test_some_twice(self):
        desk = Desk(boxed(EASY, "fore a 5 rome coal 90"))
        self.assert_said(desk, "ports rome oslo rome oslo oslo", "ok")
        self.assert_said(desk, "advise new 1 oslo coal 0", "mid")
        self.assert_said(desk, "ports oslo rome oslo", "ok")
        self.assert_said(desk, "advise new 1 oslo coal 0", "fore")

    def test_many(self):
        names = [first + second for first in "abcdefghij" for second in "uvwxyz"]
        line = "ports " + " ".join(names)
        self.assertLessEqual(len(line), 200)
        desk = Desk(boxed(EASY, "fore a 5 " + names[58] + " coal 90"))
        self.assert_said(desk, line, "ok")
        self.assert_said(desk, "advise new 1 " + names[59] + " coal 0", "mid")
        self.assert_said(desk, "advise new 1 " + names[57] + " coal 0", "fore")

    def test_no_name(self):
        for name in NO_NAMES:
            for line in [f"ports {name}", f"ports {name} oslo", f"ports oslo {name}", f"ports oslo {name} rome"]:
                desk = Desk(boxed(EASY, "fore a 5 rome coal 90"))
                with self.subTest(line=line):
                    self.assert_refusal(desk, line, NoName)
                    self.assert_said(desk, "advise new 1 oslo coal 0", "fore")
                    desk.say("ports rome")
                    self.assert_refusal(desk, line, NoName)
                    self.assert_said(desk, "advise new 1 oslo coal 0", "mid")

    def test_they_stay_at_a_call(self):
        desk = Desk(boxed(EASY, "fore a 5 rome coal 90", "mid b 5 bern coal 90"))
        desk.say("ports rome oslo")
        self.assert_said(desk, "call bern", "done 0")
        self.assert_said(desk, "advise new 1 oslo coal 0", "mid")
        desk.say("load heavy 901 rome coal 0 aft")
        self.assert_said(desk, "call rome", "refused 1 broken")
        self.assert_said(desk, "advise new 1 oslo coal 0", "mid")


class LoadCase(DeskCase):
    def with_word(self, line, place, word):
        words = line.split(" ")
        words[place] = word
        return " ".join(words)


class Load(LoadCase):
    line = "load new 5 rome coal 9 mid"

    def test_kept_for_the_next_call(self):
        desk = Desk(EASY)
        self.assert_said(desk, self.line, "ok")
        self.assert_said(desk, "steps oslo", "on mid new")
        self.assert_said(desk, "where new", "away")
        self.assert_said(desk, "call oslo", "done 0")
        self.assert_said(desk, "where new", "mid 0")
        self.assert_said(desk, "steps oslo", "none")

    def test_several(self):
        desk = Desk(EASY)
        for number, (name, stack) in enumerate([("a", "aft"), ("b", "fore"), ("c", "aft")]):
            self.assert_said(desk, f"load {name} 5 rome coal 9 {stack}", "ok")
        self.assert_said(desk, "steps rome", "on aft a, on fore b, on aft c")
        self.assert_said(desk, "call rome", "done 0")
        self.assert_said(desk, "show", (EASY + "\nbox fore b 5 rome coal 9\nbox aft a 5 rome coal 9"
                                        "\nbox aft c 5 rome coal 9").replace("\n", ", "))

    def test_no_stack(self):
        for name in ["hold", "Fore", "0", "-1", "forefore", "new", "rome", "bow"] + NO_NAMES:
            self.assert_refusal(Desk(EASY), self.with_word(self.line, 6, name), NoStack)
        self.assert_refusal(Desk(BARE), self.line, NoStack)
        for name in ["bow", "stern"]:
            self.assert_refusal(Desk(LEVEL), self.with_word(self.line, 6, name), NoStack)

    def test_no_name(self):
        for name in NO_NAMES:
            for place in [1, 3, 4]:
                self.assert_refusal(Desk(EASY), self.with_word(self.line, place, name), NoName)

    def test_no_weight(self):
        for weight in ["0", "-1", "-1000000000"]:
            self.assert_refusal(Desk(EASY), self.with_word(self.line, 2, weight), NoWeight)
        for bears in ["-1", "-1000000000"]:
            self.assert_refusal(Desk(EASY), self.with_word(self.line, 5, bears), NoWeight)
        self.assert_said(Desk(EASY), "load new 1 rome coal 0 mid", "ok")
        self.assert_said(Desk(EASY), "load new 1000000000 rome coal 1000000000 mid", "ok")

    def test_name_of_a_box_of_the_cargo(self):
        desk = Desk(boxed(EASY, "fore a 5 rome coal 9", "aft b 5 oslo coal 9"))
        for name in "ab":
            self.assert_refusal(desk, f"load {name} 5 rome coal 9 mid", NoName)
        desk.say("call rome")
        self.assert_said(desk, "load a 5 rome coal 9 mid", "ok")
        self.assert_refusal(desk, "load b 5 rome coal 9 mid", NoName)

    def test_name_of_a_load_kept_ahead(self):
        desk = Desk(EASY)
        desk.say(self.line)
        self.assert_refusal(desk, self.line, NoName)
        self.assert_refusal(desk, "load new 1 oslo acid 0 aft", NoName)
        self.assert_said(desk, "load other 1 oslo acid 0 aft", "ok")
        self.assert_refusal(desk, "load new 1 oslo acid 0 aft", NoName)
        self.assert_refusal(desk, "load other 1 oslo acid 0 aft", NoName)
        self.assert_said(desk, "steps rome", "on mid new, on aft other")

    def test_a_refused_load_is_not_kept(self):
        desk = Desk(EASY)
        self.assert_refusal(desk, "load new 0 rome coal 9 mid", NoWeight)
        self.assert_said(desk, "steps rome", "none")
        # Its name is free.
        self.assert_said(desk, self.line, "ok")
        self.assert_refusal(desk, "load other 1 rome coal 9 hold", NoStack)
        self.assert_said(desk, "steps rome", "on mid new")

    def test_the_first_thing_wrong_decides(self):
        faults = [(1, "X", NoName), (1, "a", NoName), (1, "kept", NoName), (2, "0", NoWeight), (3, "X", NoName),
                  (4, "X", NoName), (5, "-1", NoWeight), (6, "hold", NoStack)]
        order = [6, 1, 2, 3, 4, 5]
        desk = Desk(boxed(EASY, "fore a 5 rome coal 9"))
        desk.say("load kept 1 rome coal 9 aft")
        for several in itertools.chain(itertools.combinations(faults, 2), itertools.combinations(faults, 3)):
            line = self.line
            for place, word, refusal in several:
                line = self.with_word(line, place, word)
            first = min(several, key=lambda fault: order.index(fault[0]))
            with self.subTest(line=line):
                self.assert_refusal(desk, line, first[2])

    def test_nothing_else_is_asked_of_a_load(self):
        # Whether a rule would break or fills would do is asked at the call.
        self.assert_said(Desk(EASY), "load new 901 rome coal 9 mid", "ok")
        self.assert_said(Desk(DRY), "load new 5 rome coal 9 fore", "ok")


class Advise(LoadCase):
    line = "advise new 5 rome coal 9"

    def test_the_stack_is_told_by_its_name(self):
        self.assert_said(Desk(EASY), self.line, "fore")
        self.assert_said(Desk(LEVEL), self.line, "mid")
        self.assert_said(Desk(boxed(LEVEL, "fore a 5 rome coal 9")), self.line, "aft")
        self.assert_said(Desk(boxed(LEVEL, "aft a 5 rome coal 9")), self.line, "fore")

    def test_nothing_is_kept(self):
        desk = Desk(EASY)
        for _ in range(3):
            self.assert_said(desk, self.line, "fore")
        self.assert_said(desk, "where new", "away")
        self.assert_said(desk, "steps rome", "none")
        self.assert_said(desk, "load new 5 rome coal 9 mid", "ok")

    def test_no_stack(self):
        self.assert_refusal(Desk(BARE), self.line, NoStack)
        self.assert_refusal(Desk(EASY), "advise new 901 rome coal 9", NoStack)
        self.assert_said(Desk(EASY), "advise new 900 rome coal 9", "fore")
        self.assert_said(Desk(LEVEL), "advise new 26 rome coal 9", "mid")
        self.assert_refusal(Desk(boxed(LEVEL, "mid a 1 rome coal 9")), "advise new 26 rome coal 9", NoStack)
        self.assert_refusal(Desk(boxed(EASY, "aft a 1 rome coal 0", "aft b 1 rome coal 0")), self.line, NoStack)

    def test_a_wrong_box_is_refused_as_a_load_is(self):
        for text in [EASY, BARE]:
            for name in NO_NAMES:
                for place in [1, 3, 4]:
                    self.assert_refusal(Desk(text), self.with_word(self.line, place, name), NoName)
            for place, number in [(2, "0"), (2, "-1"), (2, "-1000000000"), (5, "-1"), (5, "-1000000000")]:
                self.assert_refusal(Desk(text), self.with_word(self.line, place, number), NoWeight)
        desk = Desk(boxed(EASY, "fore a 5 rome coal 9"))
        self.assert_refusal(desk, "advise a 5 rome coal 9", NoName)
        self.assert_said(Desk(EASY), "advise new 1 rome coal 0", "fore")

    def test_the_first_thing_wrong_decides(self):
        faults = [(1, "X", NoName), (1, "a", NoName), (2, "0", NoWeight), (3, "X", NoName), (4, "X", NoName),
                  (5, "-1", NoWeight)]
        desk = Desk(boxed(EASY, "fore a 5 rome coal 9"))
        for several in itertools.combinations(faults, 2):
            line = self.line
            for place, word, refusal in several:
                line = self.with_word(line, place, word)
            self.assert_refusal(desk, line, several[0][2])

    def test_kept_loads_are_not_looked_at(self):
        desk = Desk(LEVEL)
        desk.say("load kept 5 rome coal 0 mid")
        desk.say("load next 5 rome coal 900 fore")
        # Neither what they bear and weigh nor their names.
        self.assert_said(desk, self.line, "mid")
        self.assert_said(desk, "advise kept 5 rome coal 9", "mid")
        self.assert_said(desk, "advise next 5 rome coal 9", "mid")
        self.assert_said(desk, "call bern", "done 0")
        self.assert_said(desk, self.line, "aft")
        self.assert_refusal(desk, "advise kept 5 rome coal 9", NoName)


class Steps(DeskCase):
    text = boxed(EASY, "fore a 5 rome coal 90", "fore b 5 oslo coal 90", "fore c 5 rome coal 90",
                 "fore d 5 oslo coal 90", "aft e 5 rome coal 90")

    def test_steps(self):
        desk = Desk(self.text)
        self.assert_said(desk, "steps rome", "off fore d, off fore c, off fore b, off fore a, back fore b, "
                                             "back fore d, off aft e")
        self.assert_said(desk, "steps oslo", "off fore d, off fore c, off fore b, back fore c")
        self.assert_said(desk, "steps kiel", "none")
        self.assert_said(Desk(BARE), "steps rome", "none")

    def test_with_loads(self):
        desk = Desk(self.text)
        desk.say("load x 5 rome coal 90 aft")
        desk.say("load y 5 oslo coal 90 mid")
        self.assert_said(desk, "steps oslo", "off fore d, off fore c, off fore b, back fore c, on aft x, on mid y")
        self.assert_said(desk, "steps kiel", "on aft x, on mid y")
        # Nothing is done by that, and the loads are kept.
        self.assert_said(desk, "steps kiel", "on aft x, on mid y")
        self.assert_said(desk, "where a", "fore 0")

    def test_no_name(self):
        for name in NO_NAMES:
            desk = Desk(self.text)
            self.assert_refusal(desk, f"steps {name}", NoName)

    def test_of_a_call_that_would_be_refused(self):
        desk = Desk(DRY)
        desk.say("load x 5 rome coal 90 aft")
        self.assert_said(desk, "steps oslo", "on aft x")


class Call(DeskCase):
    text = Steps.text

    def test_done(self):
        desk = Desk(self.text)
        self.assert_said(desk, "call rome", "done 2")
        self.assert_said(desk, "show", boxed(EASY, "fore b 5 oslo coal 90", "fore d 5 oslo coal 90")
                         .replace("\n", ", "))
        self.assert_said(desk, "call oslo", "done 0")
        self.assert_said(desk, "show", EASY.replace("\n", ", "))
        self.assert_said(desk, "call oslo", "done 0")

    def test_moved_are_counted(self):
        self.assert_said(Desk(self.text), "call oslo", "done 1")
        self.assert_said(Desk(self.text), "call kiel", "done 0")
        self.assert_said(Desk(BARE), "call kiel", "done 0")

    def test_without_steps_though_a_rule_is_broken(self):
        desk = Desk(boxed(DRY, "fore a 1 rome coal 0", "fore b 1 rome coal 0"))
        self.assert_said(desk, "call oslo", "done 0")
        self.assert_said(desk, "where b", "fore 1")

    def test_loads_are_put_on_and_no_longer_kept(self):
        desk = Desk(self.text)
        desk.say("load x 5 rome coal 90 aft")
        desk.say("load y 5 oslo coal 90 mid")
        self.assert_said(desk, "call rome", "done 2")
        self.assert_said(desk, "where x", "aft 0")
        self.assert_said(desk, "where y", "mid 0")
        self.assert_said(desk, "steps kiel", "none")
        self.assert_said(desk, "call rome", "done 0")
        self.assert_said(desk, "where x", "away")

    def test_refused_for_rules(self):
        desk = Desk(self.text)
        desk.say("load x 5 rome coal 90 mid")
        desk.say("load y 901 oslo coal 90 mid")
        before = desk.say("show")
        self.assert_said(desk, "call kiel", "refused 1 broken")
        self.assert_said(desk, "show", before)
        self.assert_said(desk, "where x", "away")
        # The loads are no longer kept, and their names are free.
        self.assert_said(desk, "steps kiel", "none")
        self.assert_said(desk, "load y 5 oslo coal 90 mid", "ok")
        self.assert_said(desk, "call rome", "done 2")

    def test_refused_for_want_of_fills(self):
        desk = Desk(boxed(LEVEL, "fore a 5 rome coal 90"))
        desk.say("load x 5 rome coal 90 aft")
        desk.say("load y 31 oslo coal 90 fore")
        before = desk.say("show")
        self.assert_said(desk, "call rome", "refused 2 none")
        self.assert_said(desk, "show", before)
        self.assert_said(desk, "steps kiel", "none")
        self.assert_said(desk, "call rome", "done 0")

    def test_refused_at_the_first_step(self):
        self.assert_said(Desk(boxed(DRY, "fore a 5 rome coal 9", "aft b 5 oslo coal 9")), "call rome",
                         "refused 0 none")
        text = boxed(EASY, "fore a 5 rome coal 9", "aft b 5 oslo coal 0", "aft c 5 oslo coal 0")
        self.assert_said(Desk(text), "call rome", "refused 0 broken")
        desk = Desk(text)
        for _ in range(2):
            self.assert_said(desk, "call rome", "refused 0 broken")

    def test_no_name(self):
        for name in NO_NAMES:
            desk = Desk(self.text)
            desk.say("load x 5 rome coal 90 aft")
            self.assert_refusal(desk, f"call {name}", NoName)
            # The loads stay.
            self.assert_said(desk, "steps kiel", "on aft x")
            self.assert_said(desk, "call kiel", "done 0")
            self.assert_said(desk, "where x", "aft 1")


class WhereAndShow(DeskCase):
    def test_where(self):
        desk = Desk(TEXT)
        for name, wanted in [("one", "fore 0"), ("two", "fore 1"), ("three", "aft 0"), ("four", "away"),
                             ("fore", "away"), ("rome", "away"), ("abcdefgh", "away")]:
            self.assert_said(desk, f"where {name}", wanted)
        self.assert_said(Desk(BARE), "where one", "away")

    def test_where_of_a_word_that_is_no_name(self):
        for name in NO_NAMES:
            self.assert_said(Desk(TEXT), f"where {name}", "away")

    def test_where_of_a_kept_load(self):
        desk = Desk(EASY)
        desk.say("load new 5 rome coal 9 mid")
        self.assert_said(desk, "where new", "away")
        desk.say("call oslo")
        self.assert_said(desk, "where new", "mid 0")
        desk.say("call rome")
        self.assert_said(desk, "where new", "away")

    def test_where_behind_a_call_with_boxes_moved(self):
        desk = Desk(Steps.text)
        for name, ahead, behind in [("b", "fore 1", "fore 0"), ("d", "fore 3", "fore 1"), ("a", "fore 0", "away")]:
            with self.subTest(name=name):
                desk = Desk(Steps.text)
                self.assert_said(desk, f"where {name}", ahead)
                desk.say("call rome")
                self.assert_said(desk, f"where {name}", behind)

    def test_show(self):
        self.assert_said(Desk(TEXT), "show", ", ".join(LINES))
        self.assert_said(Desk(BARE), "show", "own 1 0 0 0, bounds 0 0 0 0 0 1")
        # The lines come in the order of 14.
        self.assert_said(Desk("\n".join(LINES[:2] + LINES[8:] + LINES[2:8])), "show", ", ".join(LINES))

    def test_shown_and_read_again(self):
        for text in [TEXT, LEVEL, Steps.text, BARE]:
            ship, cargo = read_ship(Desk(text).say("show").replace(", ", "\n"))
            self.assertEqual(shown_ship(ship, cargo), text)

    def test_kept_loads_are_not_shown(self):
        desk = Desk(EASY)
        desk.say("load new 5 rome coal 9 mid")
        self.assert_said(desk, "show", EASY.replace("\n", ", "))


class NoDeeds(LoadCase):
    right = ["weigh", "rules", "trim", "middle", "ports rome", "ports rome oslo", "load new 5 rome coal 9 mid",
             "advise new 5 rome coal 9", "steps rome", "call rome", "where one", "show"]
    # Each of these would be refused otherwise, were it a line of the desk.
    wrong = ["load X 0 rome coal 9 hold", "load one 5 Rome coal -1 mid", "advise X 0 rome coal 9", "steps Rome",
             "call Rome", "ports Rome", "ports rome Rome"]

    def assert_none_of_these(self, line):
        with self.subTest(line=line):
            self.assert_refusal(Desk(TEXT), line, NoDeed)
            desk = Desk(EASY)
            desk.say("load other 5 rome coal 9 aft")
            desk.say("ports rome oslo")
            self.assert_refusal(desk, line, NoDeed)

    def test_the_lines_from_which_they_are_made_are_right(self):
        for line in self.right:
            self.assertIs(type(Desk(TEXT).say(line)), str)
        for line in self.wrong:
            with self.assertRaises(KeelError) as caught:
                Desk(TEXT).say(line)
            self.assertIsNot(type(caught.exception), NoDeed)

    def test_unknown_words(self):
        for line in ["sail", "Weigh", "WEIGH", "weighs", "weig", "box", "own", "help", "0", "none", "ok", "one",
                     "weigh,", "stack fore", "port rome", "portsrome", "rome ports", "loads", "say weigh"]:
            self.assert_none_of_these(line)

    def test_a_word_too_few(self):
        for line in self.right + self.wrong:
            if " " in line and not line.startswith("ports"):
                self.assert_none_of_these(line.rpartition(" ")[0])
                self.assert_none_of_these(line.partition(" ")[0])
        self.assert_none_of_these("ports")

    def test_a_word_too_many(self):
        for line in self.right + self.wrong:
            if not line.startswith("ports"):
                for word in ["rome", "5", "x", "X", "-1"]:
                    self.assert_none_of_these(line + " " + word)

    def test_blanks(self):
        for line in self.right + self.wrong:
            self.assert_none_of_these(" " + line)
            self.assert_none_of_these(line + " ")
            self.assert_none_of_these(line + "  ")
            words = line.split(" ")
            for place in range(1, len(words)):
                self.assert_none_of_these(" ".join(words[:place]) + "  " + " ".join(words[place:]))
                # As many words as are asked for, one of them without a sign.
                self.assert_none_of_these(self.with_word(line, place, ""))
        self.assert_none_of_these("ports ")
        self.assert_none_of_these("steps ")

    def test_the_empty_line(self):
        for line in ["", " ", "  ", "   "]:
            self.assert_none_of_these(line)

    def test_numbers_written_otherwise(self):
        for word in NO_NUMBERS:
            for place in [2, 5]:
                for line in ["load new 5 rome coal 9 mid", "load X 5 rome coal 9 mid", "load new 5 rome coal 9 hold",
                             "load one 5 rome X 9 mid", "advise new 5 rome coal 9", "advise one 5 rome coal 9"]:
                    self.assert_none_of_these(self.with_word(line, place, word))

    def test_numbers_as_they_are_written(self):
        for word in ["1", "9", "10", "99", "1000000000"]:
            self.assert_said(Desk(EASY), f"load new {word} rome coal 9 mid", "ok")
            self.assert_said(Desk(EASY), f"load new 1 rome coal {word} mid", "ok")
        # Of ten figures, refused for another cause.
        self.assert_refusal(Desk(EASY), "load new -1000000000 rome coal 9 mid", NoWeight)
        self.assert_refusal(Desk(EASY), "load new 1 rome coal -1000000000 mid", NoWeight)

    def test_long_lines(self):
        for line in ["x" * 200, "weigh " + "x" * 194, "load new 5 rome coal 9 mid " + "x" * 173]:
            self.assert_none_of_these(line)
        self.assert_said(Desk(TEXT), "where " + "x" * 194, "away")


class TwoDesks(DeskCase):
    def test_they_go_their_own_ways(self):
        one, other = Desk(Steps.text), Desk(Steps.text)
        before = self.answers(other)
        one.say("ports rome oslo")
        one.say("load x 5 rome coal 90 mid")
        self.assertEqual(self.answers(other), before)
        self.assert_said(other, "load x 5 oslo coal 90 aft", "ok")
        self.assert_said(one, "call rome", "done 2")
        self.assert_said(other, "steps kiel", "on aft x")
        self.assert_said(other, "where a", "fore 0")
        self.assert_said(one, "where a", "away")
        self.assert_said(other, "call oslo", "done 1")
        self.assert_said(one, "where b", "fore 0")
        self.assert_said(other, "where b", "away")
        self.assert_said(Desk(Steps.text), "where b", "fore 1")

    def test_a_desk_made_later_begins_anew(self):
        first = Desk(TEXT)
        wanted = self.answers(Desk(TEXT))
        for line in ["ports rome", "load new 1 kiel coal 0 mid", "call oslo", "load x 1 kiel coal 0 aft"]:
            first.say(line)
        self.assertEqual(self.answers(Desk(TEXT)), wanted)


class Whole(DeskCase):
    def test_a_day_at_the_desk(self):
        desk = Desk(TEXT)
        for line, wanted in [
            ("weigh", "136 314 24 402"), ("rules", "none"), ("ports rome oslo bern", "ok"),
            ("load four 4 bern coal 9 mid", "ok"), ("advise five 3 bern coal 9", "mid"),
            ("steps rome", "off fore two, off fore one, back fore two, off aft three, on mid four"),
            ("call rome", "done 1"), ("where two", "fore 0"), ("where four", "mid 0"), ("weigh", "114 420 10 328"),
            ("steps oslo", "off fore two"), ("call oslo", "done 0"), ("call bern", "done 0"),
            ("weigh", "100 500 0 300"), ("show", ", ".join(LINES[:8])),
        ]:
            with self.subTest(line=line):
                self.assert_said(desk, line, wanted)

    def test_answers_stay_as_they_are(self):
        # Asked again, each line tells the same, where it does not tell of any.
        desk = Desk(Steps.text)
        desk.say("ports rome oslo")
        desk.say("load new 5 rome coal 9 mid")
        self.assertEqual(self.answers(desk), self.answers(desk))


if __name__ == "__main__":
    unittest.main()
