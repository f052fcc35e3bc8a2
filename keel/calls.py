"""Calls at ports: their steps, and whether each of them is done."""

from keel.ballast import ballast
from keel.cargoes import broken, check_box
from keel.errors import NoName, NoStack
from keel.ships import is_name


def lifted_boxes(boxes, port):
    for t, box in enumerate(boxes):
        if box[2] == port:
            return boxes[t:]
    return []


# A move is a step and the box that it puts down, None where it takes one away: a step alone has but the name.
def moves_in_stack(boxes, s, port):
    lifted = lifted_boxes(boxes, port)
    moves = [(("off", s, box[0]), None) for box in reversed(lifted)]
    moves.extend([(("back", s, box[0]), box) for box in lifted if box[2] != port])
    return moves


def moves_of(cargo, call):
    moves = []
    for s, boxes in enumerate(cargo):
        moves.extend(moves_in_stack(boxes, s, call[0]))
    moves.extend([(("on", s, box[0]), box) for box, s in call[1]])
    return moves


def steps_of(cargo, call):
    return [step for step, box in moves_of(cargo, call)]


def moved_at(cargo, call):
    return [step[2] for step in steps_of(cargo, call) if step[0] == "back"]


def copied(cargo):
    return [list(boxes) for boxes in cargo]


def stepped(cargo, step, box):
    behind = copied(cargo)
    if step[0] == "off":
        behind[step[1]].pop()
    else:
        behind[step[1]].append(box)
    return behind


def names_in(cargo):
    names = {}
    for boxes in cargo:
        for box in boxes:
            names[box[0]] = True
    return names


def check_loads(ship, cargo, loads):
    names = names_in(cargo)
    for box, s in loads:
        if not 0 <= s < len(ship[2]):
            raise NoStack("a load is for no stack of the ship")
        check_box(box, names)
        names[box[0]] = True


def standing(ship, cargo):
    # Broken rules go ahead of fills: where there are both, the rules are told.
    rules = broken(ship, cargo)
    if rules:
        return ("broken", rules)
    return ballast(ship, cargo)


def called(ship, cargo, call):
    if not is_name(call[0]):
        raise NoName("the port of a call is no name")
    check_loads(ship, cargo, call[1])
    behind = copied(cargo)
    log = []
    for step, box in moves_of(cargo, call):
        behind = stepped(behind, step, box)
        told = standing(ship, behind)
        if told[0] != "fill":
            return ("refused", len(log), told)
        log.append((step, told[1]))
    return ("done", behind, log, moved_at(cargo, call))
