"""Whether fills are right, whether prices show them to be the least, whether a mix shows that there are none."""

from keel.fractions import plus, times, under

NOUGHT = (0, 1)


def come_to(numbers, parts):
    reached = NOUGHT
    for number, part in zip(numbers, parts):
        reached = plus(reached, times((number, 1), part))
    return reached


def right_fills(rows, rooms, fills):
    for room, fill in zip(rooms, fills):
        if under(fill, NOUGHT) or under((room, 1), fill):
            return False
    for row, top in rows:
        if under((top, 1), come_to(row, fills)):
            return False
    return True


def has_one_below(mix):
    return any([under(part, NOUGHT) for part in mix[0] + mix[1]])


def come_to_at(rows, mix, tank):
    return plus(come_to([row[tank] for row, top in rows], mix[0]), mix[1][tank])


def come_to_in_all(rows, rooms, mix):
    return plus(come_to([top for row, top in rows], mix[0]), come_to(rooms, mix[1]))


def prices_show(rows, rooms, fills, prices):
    if has_one_below(prices):
        return False
    for tank in range(len(rooms)):
        if under(plus((1, 1), come_to_at(rows, prices, tank)), NOUGHT):
            return False
    filled = come_to([1 for fill in fills], fills)
    return plus(filled, come_to_in_all(rows, rooms, prices)) == NOUGHT


def mix_shows(rows, rooms, mix):
    if has_one_below(mix):
        return False
    for tank in range(len(rooms)):
        if under(come_to_at(rows, mix, tank), NOUGHT):
            return False
    return under(come_to_in_all(rows, rooms, mix), NOUGHT)
