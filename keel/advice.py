"""Advice: the stack for a box, and boxes stowed one after the other."""

from keel.calls import copied, names_in, standing, stepped
from keel.cargoes import check_box
from keel.errors import NoStack
from keel.fractions import plus, under


def place_of(port, ports):
    # A port that is not to come stands behind all that are, beside all others like it.
    return ports.index(port) if port in ports else len(ports)


def overstanding(cargo, s, box, ports):
    place = place_of(box[2], ports)
    return len([other for other in cargo[s] if place_of(other[2], ports) < place])


def sum_of(fills):
    reached = (0, 1)
    for fill in fills:
        reached = plus(reached, fill)
    return reached


def put_on(cargo, s, box):
    return stepped(cargo, ("on", s, box[0]), box)


# An offer is a tuple: the stack, how many boxes the box is overstanding for, the sum of the least fills.
def offers_for(ship, cargo, box, ports):
    offers = []
    for s in range(len(cargo)):
        told = standing(ship, put_on(cargo, s, box))
        if told[0] == "fill":
            offers.append((s, overstanding(cargo, s, box, ports), sum_of(told[1])))
    return offers


def goes_ahead(one, other):
    if one[1] != other[1]:
        return one[1] < other[1]
    return under(one[2], other[2])


def stack_for(ship, cargo, box, ports):
    check_box(box, names_in(cargo))
    best = None
    for offer in offers_for(ship, cargo, box, ports):
        if best is None or goes_ahead(offer, best):
            best = offer
    if best is None:
        raise NoStack("there is no stack on which the box may be put")
    return best[0]


def stowed(ship, cargo, boxes, ports):
    behind = copied(cargo)
    for box in boxes:
        behind = put_on(behind, stack_for(ship, behind, box, ports), box)
    return behind
