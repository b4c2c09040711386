"""Where the walker stands behind so many steps."""

from endrooms.fractions import fraction, greatest_divisor
from endrooms.houses import check_room
from endrooms.tables import weight_table


def common_multiple(numbers):
    multiple = 1
    for number in numbers:
        multiple = multiple // greatest_divisor(multiple, number) * number
    return multiple


def staying_table(house):
    table = weight_table(house)
    for end in house.ends():
        # Who stands in an end stays there, as if its one door led to itself.
        table[end][end] = 1
    return table


def stepped(standing, parts):
    return [sum([share * row[goal] for share, row in zip(standing, parts)]) for goal in range(len(standing))]


def behind(house, room, steps):
    check_room(house, room)
    table = staying_table(house)
    # Shares over one common number are made least only once, at the end: on the way that would cost most of the time.
    whole = common_multiple([sum(row) for row in table])
    parts = [[part * (whole // sum(row)) for part in row] for row in table]
    standing = [1 if other == room else 0 for other in range(house.rooms)]
    below = 1
    for step in range(steps):
        standing = stepped(standing, parts)
        below = below * whole
    return [fraction(above, below) for above in standing]
