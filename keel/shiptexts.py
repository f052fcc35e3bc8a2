"""Ships with their cargoes, written as texts and read from them."""

from keel.cargoes import right_cargo
from keel.errors import NoLine, NoStack
from keel.ships import right_ship

MOST_FIGURES = 10

# For each first word what stands behind it: n for a number, w for any word.
FORMS = {
    "own": "nnnn",
    "bounds": "nnnnnn",
    "stack": "wnnnnnn",
    "tank": "wnnnn",
    "apart": "wwn",
    "box": "wwnwwn",
}

FIRST_LINES = ("own", "bounds")


def written(first, parts):
    return " ".join([first] + [str(part) for part in parts])


def shown_boxes(stack, boxes):
    return [written("box", (stack[0],) + box) for box in boxes]


def shown_ship(ship, cargo):
    lines = [written("own", ship[0]), written("bounds", ship[1])]
    lines.extend([written("stack", stack) for stack in ship[2]])
    lines.extend([written("tank", tank) for tank in ship[3]])
    lines.extend([written("apart", row) for row in ship[4]])
    for stack, boxes in zip(ship[2], cargo):
        lines.extend(shown_boxes(stack, boxes))
    return "\n".join(lines)


def is_number(word):
    figures = word[1:] if word.startswith("-") else word
    # isdigit would let figures of other scripts through.
    if not all(["0" <= sign <= "9" for sign in figures]):
        return False
    if figures.startswith("0"):
        return word == "0"
    return 1 <= len(figures) <= MOST_FIGURES


def may_stand_at(first, number):
    if number < len(FIRST_LINES):
        return first == FIRST_LINES[number]
    return first in FORMS and first not in FIRST_LINES


def fits(words, form):
    if len(words) != len(form):
        return False
    for word, sort in zip(words, form):
        if word == "" or sort == "n" and not is_number(word):
            return False
    return True


def parts_of_words(words, form):
    return tuple([int(word) if sort == "n" else word for word, sort in zip(words, form)])


def read_line(line, number):
    words = line.split(" ")
    first = words[0]
    if not may_stand_at(first, number) or not fits(words[1:], FORMS[first]):
        raise NoLine(number)
    return (first, parts_of_words(words[1:], FORMS[first]))


def read_lines(text):
    lines = [read_line(line, number) for number, line in enumerate(text.split("\n"))]
    if len(lines) < len(FIRST_LINES):
        raise NoLine(len(lines))
    return lines


def parts_behind(lines, wanted):
    return [parts for first, parts in lines if first == wanted]


def ship_of(lines):
    return (
        lines[0][1],
        lines[1][1],
        parts_behind(lines, "stack"),
        parts_behind(lines, "tank"),
        parts_behind(lines, "apart"),
    )


def cargo_of(ship, lines):
    cargo = [[] for stack in ship[2]]
    numbers = {}
    for s, stack in enumerate(ship[2]):
        numbers[stack[0]] = s
    for parts in parts_behind(lines, "box"):
        if parts[0] not in numbers:
            raise NoStack("a box line names no stack of the ship")
        cargo[numbers[parts[0]]].append(parts[1:])
    return cargo


def read_ship(text):
    lines = read_lines(text)
    ship = ship_of(lines)
    right_ship(ship)
    cargo = cargo_of(ship, lines)
    right_cargo(ship, cargo)
    return (ship, cargo)
