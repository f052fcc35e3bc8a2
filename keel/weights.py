"""Weights, the rows that fills have to meet, and where the middle of all weight lies."""

from keel.fractions import fraction, plus, times

# Along, across and above stand at these places in a tank as well as in the weights.
ALONG = 1
ACROSS = 2
ABOVE = 3


def added(sums, weight, place):
    return (
        sums[0] + weight,
        sums[1] + weight * place[0],
        sums[2] + weight * place[1],
        sums[3] + weight * place[2],
    )


def weights(ship, cargo):
    own = ship[0]
    sums = added((0, 0, 0, 0), own[0], own[1:])
    for stack, boxes in zip(ship[2], cargo):
        for t, box in enumerate(boxes):
            place = (stack[1], stack[2], stack[3] + t * stack[4])
            sums = added(sums, box[1], place)
    return sums


def row_of_high(tanks, axis, high, sums):
    return ([tank[axis] - high for tank in tanks], high * sums[0] - sums[axis])


def row_of_low(tanks, axis, low, sums):
    return ([low - tank[axis] for tank in tanks], sums[axis] - low * sums[0])


def rows_of(ship, cargo):
    bounds = ship[1]
    tanks = ship[3]
    sums = weights(ship, cargo)
    return [
        row_of_high(tanks, ALONG, bounds[1], sums),
        row_of_low(tanks, ALONG, bounds[0], sums),
        row_of_high(tanks, ACROSS, bounds[3], sums),
        row_of_low(tanks, ACROSS, bounds[2], sums),
        row_of_high(tanks, ABOVE, bounds[4], sums),
        ([1 for tank in tanks], bounds[5] - sums[0]),
    ]


def divided(one, other):
    return fraction(one[0] * other[1], one[1] * other[0])


def middle(ship, cargo, fills):
    sums = [(number, 1) for number in weights(ship, cargo)]
    for tank, fill in zip(ship[3], fills):
        # Ahead of the three places stands 1, for the weight of the water itself.
        shares = (1, tank[ALONG], tank[ACROSS], tank[ABOVE])
        sums = [plus(one, times(fill, (share, 1))) for one, share in zip(sums, shares)]
    return tuple([divided(one, sums[0]) for one in sums[1:]])
