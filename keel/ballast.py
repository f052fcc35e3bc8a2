"""The ballast of a ship with a cargo, the bounds that break, and whether she lies within."""

from keel.checks import right_fills
from keel.fractions import under
from keel.least import least
from keel.weights import rows_of


def rooms_of(ship):
    return [tank[4] for tank in ship[3]]


def ballast(ship, cargo):
    return least(rows_of(ship, cargo), rooms_of(ship))


def breaking(mix):
    return [number for number, part in enumerate(mix[0]) if under((0, 1), part)]


def within(ship, cargo, fills):
    return right_fills(rows_of(ship, cargo), rooms_of(ship), fills)
