"""The desk: it keeps a ship with her cargo, and answers lines."""

from keel.advice import stack_for
from keel.ballast import ballast, breaking
from keel.calls import called, check_loads, steps_of
from keel.cargoes import broken
from keel.errors import NoDeed, NoName
from keel.ships import is_name
from keel.shiptexts import fits, parts_of_words, read_ship, shown_ship, written
from keel.weights import middle, weights


def check_names(names):
    for name in names:
        if not is_name(name):
            raise NoName("a port is no name")


def listed(texts):
    return ", ".join(texts) if texts else "none"


def shown_fraction(one):
    if one[1] == 1:
        return str(one[0])
    return str(one[0]) + "/" + str(one[1])


def shown_none(mix):
    return written("none", breaking(mix))


def stack_name(desk, s):
    return desk.ship[2][s][0]


def stack_number(desk, name):
    for s, stack in enumerate(desk.ship[2]):
        if stack[0] == name:
            return s
    # This is no stack's number: such a load is refused in its turn, as any other one for no stack is.
    return len(desk.ship[2])


def tell_weights(desk, parts):
    return " ".join([str(number) for number in weights(desk.ship, desk.cargo)])


def tell_rules(desk, parts):
    return listed([written(rule[0], rule[1:]) for rule in broken(desk.ship, desk.cargo)])


def tell_trim(desk, parts):
    told = ballast(desk.ship, desk.cargo)
    if told[0] == "none":
        return shown_none(told[1])
    return written("fill", [shown_fraction(fill) for fill in told[1]])


def tell_middle(desk, parts):
    told = ballast(desk.ship, desk.cargo)
    if told[0] == "none":
        return shown_none(told[1])
    return written("middle", [shown_fraction(one) for one in middle(desk.ship, desk.cargo, told[1])])


def keep_ports(desk, parts):
    check_names(parts)
    desk.ports = list(parts)
    return "ok"


def keep_load(desk, parts):
    loads = desk.loads + [(parts[:5], stack_number(desk, parts[5]))]
    check_loads(desk.ship, desk.cargo, loads)
    desk.loads = loads
    return "ok"


def tell_advice(desk, parts):
    return stack_name(desk, stack_for(desk.ship, desk.cargo, parts, desk.ports))


def tell_steps(desk, parts):
    check_names(parts)
    steps = steps_of(desk.cargo, (parts[0], desk.loads))
    return listed([written(step[0], (stack_name(desk, step[1]), step[2])) for step in steps])


def do_call(desk, parts):
    told = called(desk.ship, desk.cargo, (parts[0], desk.loads))
    # A port that is no name is refused above, so that the loads stay; done or not done, they go.
    desk.loads = []
    if told[0] == "refused":
        return written("refused", (told[1], told[2][0]))
    desk.cargo = told[1]
    return written("done", [len(told[3])])


def tell_where(desk, parts):
    for stack, boxes in zip(desk.ship[2], desk.cargo):
        for t, box in enumerate(boxes):
            if box[0] == parts[0]:
                return written(stack[0], [t])
    return "away"


def tell_ship(desk, parts):
    return shown_ship(desk.ship, desk.cargo).replace("\n", ", ")


# For each first word what stands behind it, as in the texts of ships: n for a number, w for any word.
FORMS = {
    "weigh": "",
    "rules": "",
    "trim": "",
    "middle": "",
    "ports": "w",
    "load": "wnwwnw",
    "advise": "wnwwn",
    "steps": "w",
    "call": "w",
    "where": "w",
    "show": "",
}

ANSWERS = {
    "weigh": tell_weights,
    "rules": tell_rules,
    "trim": tell_trim,
    "middle": tell_middle,
    "ports": keep_ports,
    "load": keep_load,
    "advise": tell_advice,
    "steps": tell_steps,
    "call": do_call,
    "where": tell_where,
    "show": tell_ship,
}


def form_of(first, words):
    # Of ports there may be any number but none.
    if first == "ports" and words:
        return "w" * len(words)
    return FORMS[first]


def read_deed(first, words):
    if first not in FORMS or not fits(words, form_of(first, words)):
        raise NoDeed("the line is none of those that a desk answers")
    return parts_of_words(words, form_of(first, words))


class Desk:
    def __init__(self, text):
        read = read_ship(text)
        self.ship = read[0]
        self.cargo = read[1]
        self.loads = []
        self.ports = []

    def say(self, line):
        words = line.split(" ")
        parts = read_deed(words[0], words[1:])
        return ANSWERS[words[0]](self, parts)
