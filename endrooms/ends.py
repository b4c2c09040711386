"""Where walks end, how many steps they take, and how often they come to a room."""

from endrooms.choices import choice_weight, weight
from endrooms.errors import IsEnd, Unending
from endrooms.fractions import fraction
from endrooms.houses import check_room, comes_to_end
from endrooms.tables import solved_above, weight_table


def check_ending(house):
    if not comes_to_end(house):
        raise Unending("from some room of the house no end can be come to")


def end_shares(house, room):
    check_room(house, room)
    check_ending(house)
    whole = weight(house)
    return [fraction(choice_weight(house, room, end), whole) for end in range(house.rooms)]


def length(house, room):
    check_room(house, room)
    check_ending(house)
    # Each step counts 1, so the weight of all doors from a room is told of it; an end has none and takes no step.
    told = [sum(weights) for weights in weight_table(house)]
    return fraction(solved_above(house, room, told), weight(house))


def visits(house, one, other):
    check_room(house, one)
    check_room(house, other)
    check_ending(house)
    if other in house.ends():
        raise IsEnd("visits are told of rooms that are no ends alone")
    # Only standing in the other room counts 1, so the weight of its doors is told of it, and nought of all others.
    told = [0] * house.rooms
    told[other] = sum(weight_table(house)[other])
    return fraction(solved_above(house, one, told), weight(house))
