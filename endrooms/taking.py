"""A room taken out of a house, the doors to it leading on through its own."""

from endrooms.errors import IsEnd, NoTaking
from endrooms.fractions import greatest_divisor
from endrooms.houses import House, check_room
from endrooms.tables import weight_table


def least(weights):
    divisor = 0
    for part in weights:
        divisor = greatest_divisor(divisor, part)
    # An end has noughts alone, and no divisor but nought; over 1 they stay.
    return [part // max(divisor, 1) for part in weights]


def doors_without(table, room, leaving):
    others = [other for other in range(len(table)) if other != room]
    doors = []
    for number, start in enumerate(others):
        # The shares times the weight of all doors from `start` and times `leaving` are whole numbers.
        weights = least([table[start][goal] * leaving + table[start][room] * table[room][goal] for goal in others])
        doors.extend([(number, goal, part) for goal, part in enumerate(weights) if part != 0])
    return doors


def taken_out(house, room):
    check_room(house, room)
    if room in house.ends():
        raise IsEnd("an end is not taken out")
    table = weight_table(house)
    leaving = sum(table[room]) - table[room][room]
    if leaving == 0:
        raise NoTaking("all doors of the room lead to itself")
    left = House(house.rooms - 1, [])
    # Set behind the checks of a house handed in: of heavier doors than the document has here the weights may
    # grow beyond those bounds, and taking out refuses nothing for that.
    left.doors = doors_without(table, room, leaving)
    return left
