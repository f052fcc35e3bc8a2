"""Right cargoes, and the rules that a cargo breaks."""

from keel.errors import NoName, NoStack, NoWeight
from keel.ships import apart_by, is_name


def check_box(box, names):
    # A thing that is no name may not be fit for a key of the dict: it is looked at first.
    if not is_name(box[0]):
        raise NoName("a box's name is no name")
    if box[0] in names:
        raise NoName("a box ahead has a box's name")
    if box[1] < 1:
        raise NoWeight("a box's weight is below 1")
    if not is_name(box[2]):
        raise NoName("a box's port is no name")
    if not is_name(box[3]):
        raise NoName("a box's kind is no name")
    if box[4] < 0:
        raise NoWeight("what a box bears is below 0")


def right_cargo(ship, cargo):
    if len(cargo) != len(ship[2]):
        raise NoStack("there are not as many lists as stacks")
    names = {}
    for boxes in cargo:
        for box in boxes:
            check_box(box, names)
            names[box[0]] = True
    return True


def broken_in_stack(stack, s, boxes):
    rules = []
    above = sum([box[1] for box in boxes])
    if len(boxes) > stack[5]:
        rules.append(("high", s))
    if above > stack[6]:
        rules.append(("most", s))
    for t, box in enumerate(boxes):
        above = above - box[1]
        if above > box[4]:
            rules.append(("bears", s, t))
    return rules


def far_of(ship, one, other):
    # Several rows may tell of the same two kinds: the farthest one asks for all that the others do.
    return max([row[2] for row in ship[4] if row[:2] in ((one, other), (other, one))], default=0)


def placed_boxes(cargo):
    placed = []
    for s, boxes in enumerate(cargo):
        for t, box in enumerate(boxes):
            placed.append((s, t, box[3]))
    return placed


def broken_apart(ship, cargo):
    rules = []
    placed = placed_boxes(cargo)
    for number, one in enumerate(placed):
        for other in placed[number + 1:]:
            if far_of(ship, one[2], other[2]) > apart_by(ship, one[0], other[0]):
                rules.append(("apart", one[0], one[1], other[0], other[1]))
    return rules


def broken(ship, cargo):
    rules = []
    for s, boxes in enumerate(cargo):
        rules.extend(broken_in_stack(ship[2][s], s, boxes))
    rules.extend(broken_apart(ship, cargo))
    return rules
