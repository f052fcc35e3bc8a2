"""The least fills that meet rows, with prices; or a mix that shows that there are none.

The unknowns are numbered: first the fills, then what is left of each row's top, then what is left of each room.
All of them have to be 0 or more. Always as many as there are fills are free, and stand at 0; each of the others
is held by a line. It begins with all fills free: their sum could not be less, but some tops may be passed. Then a
free unknown takes the place of one that is below 0, again and again, so that no fills of a smaller sum are missed.
"""

from keel.fractions import fraction


# Each line of a table: scale times what it holds, and its numbers times the free ones, come to its last number.
# The goal is such a line, which holds the sum of all fills, its sign turned; its other numbers stay from 0 on.
class Table:
    def __init__(self, rows, rooms):
        self.scale = 1
        self.free = list(range(len(rooms)))
        self.held = list(range(len(rooms), len(rooms) + len(rows) + len(rooms)))
        self.lines = [list(row) + [top] for row, top in rows] + room_lines(rooms)
        self.goal = [1 for room in rooms] + [0]

    def swap(self, place, column):
        pivot_line = self.lines[place]
        lines = [cleared(line, pivot_line, column, self.scale) for line in self.lines]
        lines[place] = turned(pivot_line, column, self.scale)
        self.goal = cleared(self.goal, pivot_line, column, self.scale)
        self.lines = lines
        self.scale = -pivot_line[column]
        freed = self.held[place]
        self.held[place] = self.free[column]
        self.free[column] = freed


def room_lines(rooms):
    lines = []
    for tank, room in enumerate(rooms):
        line = [0 for other in rooms] + [room]
        line[tank] = 1
        lines.append(line)
    return lines


def cleared(line, pivot_line, column, scale):
    # Each number of a table is a determinant of the first one's numbers, so nothing is lost by this division.
    step = -pivot_line[column]
    share = line[column]
    numbers = [(step * one + share * other) // scale for one, other in zip(line, pivot_line)]
    numbers[column] = share
    return numbers


def turned(pivot_line, column, scale):
    numbers = [-one for one in pivot_line]
    numbers[column] = -scale
    return numbers


def place_below(table):
    # Always the first unknown, here and among the columns: so no table comes twice, and there is an end.
    below = [place for place, line in enumerate(table.lines) if line[-1] < 0]
    return min(below, key=lambda place: table.held[place], default=None)


def goes_ahead(table, line, column, best):
    one = table.goal[column] * -line[best]
    other = table.goal[best] * -line[column]
    return one < other or one == other and table.free[column] < table.free[best]


def column_for(table, line):
    # Any other column would bring a number of the goal below 0; where there is none, nothing lifts what is held.
    best = None
    for column in range(len(table.free)):
        if line[column] < 0 and (best is None or goes_ahead(table, line, column, best)):
            best = column
    return best


def parts_of(table, rows, shares):
    # An unknown that is in no share has none: only those of rows and rooms are told, the fills' own are not.
    first_row = len(table.free)
    first_room = first_row + len(rows)
    parts = [fraction(shares.get(number, 0), table.scale) for number in range(first_room + len(table.free))]
    return (parts[first_row:first_room], parts[first_room:])


def shares_of(table, line):
    shares = {}
    for number, share in zip(table.free, line[:-1]):
        shares[number] = share
    return shares


def told_none(table, rows, place):
    # The line says that a sum of things from 0 on is below 0: what it is made of shows that there are no fills.
    shares = shares_of(table, table.lines[place])
    shares[table.held[place]] = table.scale
    return ("none", parts_of(table, rows, shares))


def told_fill(table, rows, rooms):
    reached = {}
    for number, line in zip(table.held, table.lines):
        reached[number] = line[-1]
    fills = [fraction(reached.get(number, 0), table.scale) for number in range(len(rooms))]
    return ("fill", fills, parts_of(table, rows, shares_of(table, table.goal)))


def least(rows, rooms):
    table = Table(rows, rooms)
    place = place_below(table)
    while place is not None:
        column = column_for(table, table.lines[place])
        if column is None:
            return told_none(table, rows, place)
        table.swap(place, column)
        place = place_below(table)
    return told_fill(table, rows, rooms)
