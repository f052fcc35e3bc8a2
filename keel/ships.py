"""Names, right ships, and how far their stacks lie apart."""

from keel.errors import NoBounds, NoName, NoSize, NoWeight

LONGEST_NAME = 8


def is_name(thing):
    if not isinstance(thing, str):
        return False
    # islower would let letters of other alphabets through, and figures beside a letter.
    return 1 <= len(thing) <= LONGEST_NAME and all(["a" <= sign <= "z" for sign in thing])


def check_sizes(sizes, owner):
    for size in sizes:
        if size < 1:
            raise NoSize(f"{owner}: a size is below 1")


def check_own(own):
    if own[0] < 1:
        raise NoWeight("the ship's own weight is below 1")


def check_bounds(bounds):
    if bounds[0] > bounds[1]:
        raise NoBounds("along low is above along high")
    if bounds[2] > bounds[3]:
        raise NoBounds("across low is above across high")
    check_sizes([bounds[5]], "bounds")


def check_places(places, sort):
    # Stacks and tanks are alike here: a name, three numbers that tell where, then the sizes.
    names = {}
    for number, place in enumerate(places):
        owner = f"{sort} {number}"
        name = place[0]
        # A thing that is no name may not be fit for a key of the dict: it is looked at first.
        if not is_name(name):
            raise NoName(f"{owner}: its name is no name")
        if name in names:
            raise NoName(f"{owner}: an earlier {sort} has its name")
        names[name] = True
        check_sizes(place[4:], owner)


def check_apart(apart):
    for number, row in enumerate(apart):
        owner = f"row of kinds apart {number}"
        if not is_name(row[0]) or not is_name(row[1]):
            raise NoName(f"{owner}: a kind is no name")
        check_sizes([row[2]], owner)


def right_ship(ship):
    check_own(ship[0])
    check_bounds(ship[1])
    check_places(ship[2], "stack")
    check_places(ship[3], "tank")
    check_apart(ship[4])
    return True


def apart_by(ship, s, other):
    one = ship[2][s]
    two = ship[2][other]
    return abs(one[1] - two[1]) + abs(one[2] - two[2])
