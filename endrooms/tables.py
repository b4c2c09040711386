"""Tables of whole numbers that a house's doors make, and the equations that are solved with them."""


def weight_table(house):
    table = [[0] * house.rooms for room in range(house.rooms)]
    for door in house.doors:
        table[door[0]][door[1]] += door[2]
    return table


# End shares, lengths and visits solve the same equations, multiplied out so that no fraction stands in them:
# the weight of all doors from a room times the room's number, less each door's weight times the number of the
# room to which it leads, is what is told of that room. These are the left sides, a row for each room.
def equation_rows(house):
    rows = []
    for room, weights in enumerate(weight_table(house)):
        row = [-part for part in weights]
        # An end has no weight; with 1 in its place, what is told of it is its own number.
        row[room] += max(sum(weights), 1)
        rows.append(row)
    return rows


def cleared(row, other, before):
    # By Bareiss each such difference holds the pivot of the step before as a factor, so nothing is left over.
    return [(row[0] * other[place] - other[0] * row[place]) // before for place in range(1, len(row))]


def determinant(rows, before=1):
    if not rows:
        return before
    for place, row in enumerate(rows):
        if row[0] != 0:
            others = rows[:place] + rows[place + 1:]
            smaller = determinant([cleared(row, other, before) for other in others], row[0])
            # The row came to the top past as many others as its place says, and each of them turns the sign.
            return -smaller if place % 2 == 1 else smaller
    return 0


# By Cramer's rule this is the number of the room that solves the equations, times the determinant of their left
# sides: a whole number.
def solved_above(house, room, told):
    rows = equation_rows(house)
    return determinant([row[:room] + [told[start]] + row[room + 1:] for start, row in enumerate(rows)])
