"""Points 14 and 15."""

import copy
import itertools
import unittest

from keel.errors import KeelError, NoBounds, NoLine, NoName, NoSize, NoStack, NoWeight
from keel.shiptexts import read_ship, shown_ship

SHIP = (
    (100, 5, 0, -3),
    (-10, 10, -2, 2, 9, 1000),
    [("fore", -8, 1, 2, 3, 4, 50), ("mid", 0, 0, -2, 1, 2, 60), ("aft", 9, -1, 2, 3, 4, 70)],
    [("port", 0, -4, 1, 30), ("star", 0, 4, 1, 31)],
    [("acid", "food", 5), ("fire", "fire", 2)],
)
CARGO = [
    [("one", 5, "rome", "acid", 9), ("two", 4, "oslo", "food", 0)],
    [],
    [("three", 7, "rome", "coal", 8), ("four", 6, "bern", "acid", 2), ("five", 1, "oslo", "food", 0)],
]
LINES = [
    "own 100 5 0 -3",
    "bounds -10 10 -2 2 9 1000",
    "stack fore -8 1 2 3 4 50",
    "stack mid 0 0 -2 1 2 60",
    "stack aft 9 -1 2 3 4 70",
    "tank port 0 -4 1 30",
    "tank star 0 4 1 31",
    "apart acid food 5",
    "apart fire fire 2",
    "box fore one 5 rome acid 9",
    "box fore two 4 oslo food 0",
    "box aft three 7 rome coal 8",
    "box aft four 6 bern acid 2",
    "box aft five 1 oslo food 0",
]
TEXT = "\n".join(LINES)
HEAD = "own 1 0 0 0\nbounds 0 0 0 0 0 1"
BARE = ((1, 0, 0, 0), (0, 0, 0, 0, 0, 1), [], [], [])


def with_line(number, line):
    return "\n".join(LINES[:number] + [line] + LINES[number + 1:])


def word_places():
    return [(number, place) for number, line in enumerate(LINES) for place in range(len(line.split(" ")))]


def with_word(number, place, word):
    words = LINES[number].split(" ")
    words[place] = word
    return with_line(number, " ".join(words))


def is_figures(word):
    return word.lstrip("-").isdigit()


def number_places():
    return [(number, place) for number, place in word_places() if is_figures(LINES[number].split(" ")[place])]


def name_places():
    return [
        (number, place)
        for number, place in word_places()
        if place > 0 and not is_figures(LINES[number].split(" ")[place])
    ]


class Shown(unittest.TestCase):
    def assert_shown(self, ship, cargo, wanted):
        before = repr((ship, cargo))
        told = shown_ship(ship, cargo)
        self.assertIs(type(told), str)
        self.assertEqual(told, wanted)
        self.assertEqual(repr((ship, cargo)), before)

    def test_every_kind_of_line(self):
        self.assert_shown(SHIP, CARGO, TEXT)

    def test_empty_ship(self):
        self.assert_shown(BARE, [], HEAD)

    def test_empty_stacks(self):
        self.assert_shown(SHIP, [[], [], []], "\n".join(LINES[:9]))

    def test_each_list_alone(self):
        own, bounds, stacks, tanks, apart = SHIP
        self.assert_shown((own, bounds, stacks, [], []), [[], [], []], "\n".join(LINES[:2] + LINES[2:5]))
        self.assert_shown((own, bounds, [], tanks, []), [], "\n".join(LINES[:2] + LINES[5:7]))
        self.assert_shown((own, bounds, [], [], apart), [], "\n".join(LINES[:2] + LINES[7:9]))

    def test_boxes_stack_by_stack_and_from_below(self):
        cargo = [[], CARGO[2][::-1], CARGO[0]]
        self.assert_shown(SHIP, cargo, "\n".join(LINES[:9] + [
            "box mid five 1 oslo food 0",
            "box mid four 6 bern acid 2",
            "box mid three 7 rome coal 8",
            "box aft one 5 rome acid 9",
            "box aft two 4 oslo food 0",
        ]))

    def test_lists_keep_their_order(self):
        own, bounds, stacks, tanks, apart = SHIP
        ship = (own, bounds, stacks[::-1], tanks[::-1], apart[::-1])
        wanted = LINES[:2] + LINES[4:1:-1] + LINES[6:4:-1] + LINES[8:6:-1]
        self.assert_shown(ship, [[], [], []], "\n".join(wanted))

    def test_nought_and_numbers_below(self):
        great = 10 ** 9
        ship = ((great, 0, -1, -great), (-great, great, -7, 0, -30, great), [("a", 0, -10, -great, 1, 1, 1)], [], [])
        self.assert_shown(ship, [[]], "\n".join([
            "own 1000000000 0 -1 -1000000000",
            "bounds -1000000000 1000000000 -7 0 -30 1000000000",
            "stack a 0 -10 -1000000000 1 1 1",
        ]))


class ReadCase(unittest.TestCase):
    def assert_read(self, text, ship, cargo):
        told = read_ship(text)
        self.assertEqual(told, (ship, cargo))
        self.assertEqual(repr(told), repr((ship, cargo)))

    def assert_no_line(self, text, line):
        with self.assertRaises(NoLine) as caught:
            read_ship(text)
        self.assertIs(type(caught.exception), NoLine)
        self.assertIs(type(caught.exception.line), int)
        self.assertEqual(caught.exception.line, line)

    def assert_refused(self, text, refusal):
        with self.assertRaises(KeelError) as caught:
            read_ship(text)
        self.assertIs(type(caught.exception), refusal)


class ReadTexts(ReadCase):
    def test_every_kind_of_line(self):
        self.assert_read(TEXT, SHIP, CARGO)

    def test_two_lines_alone(self):
        self.assert_read(HEAD, BARE, [])

    def test_what_is_shown_is_read(self):
        great = 10 ** 9
        ships = [
            (BARE, []),
            (SHIP, CARGO),
            (SHIP, [[], [], []]),
            (SHIP, [CARGO[2], CARGO[0], []]),
            (((great, -great, 0, great), (-great, great, -great, -great, -great, great),
              [("abcdefgh", -great, great, -1, great, great, great)], [("z", great, -great, 0, great)],
              [("a", "abcdefgh", great)]), [[("a", great, "b", "c", great), ("b", 1, "b", "b", 0)]]),
        ]
        for ship, cargo in ships:
            self.assert_read(shown_ship(ship, cargo), ship, cargo)
        for ship, cargo in ships:
            self.assertEqual(shown_ship(*read_ship(shown_ship(ship, cargo))), shown_ship(ship, cargo))

    def test_lines_in_another_order(self):
        self.assert_read("\n".join(LINES[:2] + LINES[9:] + LINES[7:9] + LINES[5:7] + LINES[2:5]), SHIP, CARGO)

    def test_lists_in_the_order_of_their_lines(self):
        own, bounds, stacks, tanks, apart = SHIP
        turned = (own, bounds, stacks[::-1], tanks[::-1], apart[::-1])
        cargo = [CARGO[2][::-1], [], CARGO[0][::-1]]
        self.assert_read("\n".join(LINES[:2] + LINES[:1:-1]), turned, cargo)

    def test_lines_mixed(self):
        order = [0, 1, 12, 8, 3, 6, 10, 4, 13, 7, 2, 9, 5, 11]
        own, bounds, stacks, tanks, apart = SHIP
        ship = (own, bounds, [stacks[1], stacks[2], stacks[0]], tanks[::-1], apart[::-1])
        cargo = [[], [CARGO[2][1], CARGO[2][2], CARGO[2][0]], CARGO[0][::-1]]
        self.assert_read("\n".join(LINES[number] for number in order), ship, cargo)

    def test_numbers_at_their_edges(self):
        for figures, number in [("0", 0), ("1", 1), ("-1", -1), ("10", 10), ("-10", -10), ("100", 100), ("909", 909),
                                ("999999999", 999999999), ("1000000000", 10 ** 9), ("-1000000000", -(10 ** 9))]:
            ship = ((1, number, 0, 0),) + BARE[1:]
            self.assert_read(HEAD.replace("own 1 0", "own 1 " + figures), ship, [])

    def test_names_like_first_words(self):
        text = HEAD + "\nstack stack 0 0 0 1 1 1\ntank stack 0 0 0 1\napart box own 1\nbox stack box 1 own bounds 0"
        ship = BARE[:2] + ([("stack", 0, 0, 0, 1, 1, 1)], [("stack", 0, 0, 0, 1)], [("box", "own", 1)])
        self.assert_read(text, ship, [[("box", 1, "own", "bounds", 0)]])

    def test_cargo_that_breaks_rules(self):
        text = HEAD + "\nstack a 0 0 0 1 1 1\nbox a b 9 rome acid 0\nbox a c 9 rome acid 0"
        ship = BARE[:2] + ([("a", 0, 0, 0, 1, 1, 1)], [], [])
        self.assert_read(text, ship, [[("b", 9, "rome", "acid", 0), ("c", 9, "rome", "acid", 0)]])

    def test_fifty_lines(self):
        names = [letter + other for letter in "ab" for other in "abcdefghijklmnopqrstuvwx"][:47]
        lines = HEAD.split("\n") + ["stack a 0 0 0 1 1 1"] + [f"box a {name} 1 rome acid 0" for name in names]
        self.assertEqual(len(lines), 50)
        told = read_ship("\n".join(lines))
        self.assertEqual(told[1], [[(name, 1, "rome", "acid", 0) for name in names]])

    def test_told_is_the_askers_own(self):
        ship, cargo = read_ship(TEXT)
        for part in [*ship[2:], *cargo, cargo]:
            part.append("something")
        self.assert_read(TEXT, SHIP, CARGO)
        ship, cargo = read_ship(HEAD)
        for part in [*ship[2:], cargo]:
            part.append("something")
        self.assert_read(HEAD, BARE, [])

    def test_no_list_is_told_twice(self):
        ship, cargo = read_ship("\n".join(LINES[:2]) + "\nstack a 0 0 0 1 1 1\nstack b 0 0 0 1 1 1")
        lists = [*ship[2:], cargo, *cargo]
        self.assertEqual(len({id(part) for part in lists}), 6)


class NoLines(ReadCase):
    def test_empty_text(self):
        self.assert_no_line("", 0)

    def test_first_line_only(self):
        self.assert_no_line(LINES[0], 1)
        self.assert_no_line(LINES[0] + "\n", 1)
        self.assert_no_line("own 0 0 0 0", 1)

    def test_wrong_first_line_only(self):
        self.assert_no_line("own 1 0 0", 0)
        self.assert_no_line("something", 0)
        self.assert_no_line(LINES[1], 0)

    def test_first_and_second_line_are_own_and_bounds(self):
        for number, line in itertools.product([0, 1], range(len(LINES))):
            if number != line:
                self.assert_no_line(with_line(number, LINES[line]), number)
        self.assert_no_line("\n".join(LINES[1::-1] + LINES[2:]), 0)
        self.assert_no_line("\n".join(LINES[:1] + LINES[2:] + LINES[1:2]), 1)
        self.assert_no_line("\n".join(LINES[1:]), 0)

    def test_second_own_or_bounds(self):
        for place in range(2, len(LINES) + 1):
            for line in LINES[:2]:
                self.assert_no_line("\n".join(LINES[:place] + [line] + LINES[place:]), place)

    def test_empty_lines(self):
        for place in range(len(LINES) + 1):
            self.assert_no_line("\n".join(LINES[:place] + [""] + LINES[place:]), place)
        self.assert_no_line(TEXT + "\n", len(LINES))
        self.assert_no_line(TEXT + "\n\n", len(LINES))
        self.assert_no_line(HEAD + "\n", 2)
        self.assert_no_line("\n", 0)

    def test_blank_lines(self):
        for number in range(len(LINES)):
            self.assert_no_line(with_line(number, " "), number)
            self.assert_no_line(with_line(number, "  "), number)

    def test_numbers_written_otherwise(self):
        wrong = [
            "12345678901", "-12345678901", "00000000001", "10000000000", "99999999999", "+1", "01", "-01", "00",
            "-0", "-00", "-", "--1", "1-", "-+1", "+", "1.0", "1.", ".5", "1e3", "1_0", "0x1", "one", "1a", "a1",
            "1,", "(1)", "True", "None", "'1'", "1/1", ":", "/", "-:",
        ]
        for number, place in number_places():
            for word in wrong:
                with self.subTest(number=number, place=place, word=word):
                    self.assert_no_line(with_word(number, place, word), number)

    def test_every_sign_as_a_number(self):
        for code in range(33, 127):
            sign = chr(code)
            text = HEAD.replace("own 1 0", "own 1 " + sign)
            twice = HEAD.replace("own 1 0", "own 1 1" + sign)
            with self.subTest(sign=sign):
                if sign in "0123456789":
                    self.assertEqual(read_ship(text)[0][0][1], int(sign))
                    self.assertEqual(read_ship(twice)[0][0][1], 10 + int(sign))
                else:
                    self.assert_no_line(text, 0)
                    self.assert_no_line(twice, 0)

    def test_empty_words_and_blanks(self):
        for number, place in word_places():
            with self.subTest(number=number, place=place):
                self.assert_no_line(with_word(number, place, ""), number)
                word = LINES[number].split(" ")[place]
                self.assert_no_line(with_word(number, place, " " + word), number)
                self.assert_no_line(with_word(number, place, word + " "), number)

    def test_word_too_few_and_too_many(self):
        for number, place in word_places():
            words = LINES[number].split(" ")
            with self.subTest(number=number, place=place):
                self.assert_no_line(with_line(number, " ".join(words[:place] + words[place + 1:])), number)
                self.assert_no_line(with_line(number, " ".join(words[:place])), number)
        for number, line in enumerate(LINES):
            for more in ["1", "a", "0 0"]:
                self.assert_no_line(with_line(number, line + " " + more), number)

    def test_unknown_first_words(self):
        wrong = ["owns", "Own", "OWN", "bound", "stacks", "Stack", "stac", "tanks", "aparts", "boxes", "boxs", "b",
                 "1", "-", "wwnwwn", "n"]
        for number in range(len(LINES)):
            for word in wrong:
                self.assert_no_line(with_word(number, 0, word), number)

    def test_one_sort_of_line_is_not_another(self):
        firsts = ["own", "bounds", "stack", "tank", "apart", "box"]
        for number, line in enumerate(LINES):
            for word in firsts:
                if word != line.split(" ")[0]:
                    with self.subTest(number=number, word=word):
                        self.assert_no_line(with_word(number, 0, word), number)

    def test_names_and_numbers_changed_about(self):
        self.assert_no_line(with_line(2, "stack -8 fore 1 2 3 4 50"), 2)
        self.assert_no_line(with_line(5, "tank 0 port -4 1 30"), 5)
        self.assert_no_line(with_line(7, "apart 5 acid food"), 7)
        self.assert_no_line(with_line(9, "box fore 5 one rome acid 9"), 9)
        self.assert_no_line(with_line(9, "box fore one rome 5 acid 9"), 9)
        self.assert_no_line(with_line(9, "box fore one 5 rome 9 acid"), 9)

    def test_the_first_such_line_is_told(self):
        for one, other in itertools.combinations(range(len(LINES)), 2):
            lines = list(LINES)
            lines[one] = lines[one] + " "
            lines[other] = "something"
            self.assert_no_line("\n".join(lines), one)

    def test_after_a_refusal_all_is_read_as_before(self):
        self.assert_no_line(TEXT + "\n", len(LINES))
        self.assert_read(TEXT, SHIP, CARGO)


# A line that makes a ship or cargo wrong, and the class; the first one decides.
SHIP_FAULTS = [
    (0, "own 0 5 0 -3", NoWeight),
    (1, "bounds 11 10 -2 2 9 1000", NoBounds),
    (2, "stack Fore -8 1 2 3 4 50", NoName),
    (3, "stack mid 0 0 -2 0 2 60", NoSize),
    (4, "stack mid 9 -1 2 3 4 70", NoName),
    (5, "tank 12 0 -4 1 30", NoName),
    (6, "tank star 0 4 1 0", NoSize),
    (7, "apart acid foo-d 5", NoName),
    (8, "apart fire fire 0", NoSize),
]
STACK_FAULTS = [
    (9, "box peak one 5 rome acid 9", NoStack),
    (10, "box port two 4 oslo food 0", NoStack),
    (11, "box Aft three 7 rome coal 8", NoStack),
    (13, "box abcdefghijk five 1 oslo food 0", NoStack),
]
CARGO_FAULTS = [
    (9, "box fore One 5 rome acid 9", NoName),
    (10, "box fore two 0 oslo food 0", NoWeight),
    (11, "box aft three 7 rome! coal 8", NoName),
    (12, "box aft one 6 bern acid 2", NoName),
    (13, "box aft five 1 oslo food -1", NoWeight),
]


def with_faults(*faults):
    lines = list(LINES)
    for number, line, _ in faults:
        lines[number] = line
    return "\n".join(lines)


class Refused(ReadCase):
    def test_each_alone(self):
        for fault in SHIP_FAULTS + STACK_FAULTS + CARGO_FAULTS:
            with self.subTest(fault=fault):
                self.assert_refused(with_faults(fault), fault[2])

    def test_the_first_one_decides(self):
        for one, other in itertools.combinations(SHIP_FAULTS + STACK_FAULTS + CARGO_FAULTS, 2):
            if one[0] != other[0]:
                with self.subTest(one=one, other=other):
                    self.assert_refused(with_faults(one, other), one[2])

    def test_no_line_is_ahead_of_all(self):
        for fault in SHIP_FAULTS + STACK_FAULTS + CARGO_FAULTS:
            for number in range(len(LINES)):
                if number != fault[0]:
                    lines = with_faults(fault).split("\n")
                    lines[number] = "something"
                    self.assert_no_line("\n".join(lines), number)
            self.assert_no_line(with_faults(fault) + "\n", len(LINES))

    def test_ship_lines_behind_box_lines(self):
        head, rest = LINES[:2], LINES[2:9]
        boxes = ["box peak one 5 rome acid 9", "box fore Two 4 oslo food 0"]
        self.assert_refused("\n".join(head + boxes + rest), NoStack)
        self.assert_refused("\n".join(head + boxes[::-1] + rest), NoStack)
        self.assert_refused("\n".join(head + boxes[1:] + rest), NoName)
        self.assert_refused("\n".join(head + boxes + rest + ["tank fore 0 0 0 0"]), NoSize)
        self.assert_refused("\n".join(head + boxes + rest + ["apart a b 0"]), NoSize)

    def test_order_of_the_ship_and_not_of_the_lines(self):
        wrong = ["apart a B 1", "tank a 0 0 0 0", "stack b 0 0 0 1 1 1", "stack b 0 0 0 1 1 1"]
        self.assert_refused("\n".join(["own 1 0 0 0", "bounds 0 0 0 0 0 1"] + wrong), NoName)
        self.assert_refused("\n".join(["own 1 0 0 0", "bounds 0 0 0 0 0 1"] + wrong[:3]), NoSize)
        self.assert_refused("\n".join(["own 1 0 0 0", "bounds 0 0 0 0 0 0"] + wrong), NoSize)
        self.assert_refused("\n".join(["own 1 0 0 0", "bounds 0 0 1 0 0 0"] + wrong), NoBounds)
        self.assert_refused("\n".join(["own 0 0 0 0", "bounds 0 0 1 0 0 0"] + wrong), NoWeight)

    def test_order_of_the_cargo_and_not_of_the_lines(self):
        stacks = ["stack a 0 0 0 1 1 1", "stack b 0 0 0 1 1 1"]
        boxes = ["box b one 1 rome acid -1", "box a Two 1 rome acid 0"]
        self.assert_refused("\n".join(HEAD.split("\n") + stacks + boxes), NoName)
        self.assert_refused("\n".join(HEAD.split("\n") + stacks[::-1] + boxes), NoWeight)

    def test_box_without_any_stack(self):
        self.assert_refused(HEAD + "\nbox a one 1 rome acid 0", NoStack)
        self.assert_refused(HEAD + "\ntank a 0 0 0 1\nbox a one 1 rome acid 0", NoStack)

    def test_no_names_are_no_faults_of_lines(self):
        for number, place in name_places():
            for word in ["A", "abcdefghi", "1", "-1", "12345678901", "a1", "!", "~", "_", "own-", "x" * 100]:
                with self.subTest(number=number, place=place, word=word):
                    refusal = NoStack if number >= 9 and place == 1 else NoName
                    self.assert_refused(with_word(number, place, word), refusal)

    def test_edges_of_sizes(self):
        for number, line, good in [(2, "stack fore -8 1 2 0 4 50", 5), (2, "stack fore -8 1 2 3 0 50", 6),
                                   (2, "stack fore -8 1 2 3 4 0", 7), (5, "tank port 0 -4 1 0", 5),
                                   (1, "bounds -10 10 -2 2 9 0", 6)]:
            self.assert_refused(with_line(number, line), NoSize)
            words = line.split(" ")
            words[good] = "1"
            read_ship(with_line(number, " ".join(words)))

    def test_handed_in_stays(self):
        ship, cargo = copy.deepcopy(SHIP), copy.deepcopy(CARGO)
        shown_ship(ship, cargo)
        self.assertEqual(repr((ship, cargo)), repr((SHIP, CARGO)))


if __name__ == "__main__":
    unittest.main()
