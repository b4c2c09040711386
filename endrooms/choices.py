"""Choices of one door for each room that is no end, and the weights of those that lead out."""

from endrooms.houses import check_room
from endrooms.tables import determinant, equation_rows, solved_above


def weight(house):
    # A choice that leads out is a tree towards the ends, and Kirchhoff's theorem sums the weights of all of these.
    return determinant(equation_rows(house))


def choice_weight(house, room, end):
    check_room(house, room)
    check_room(house, end)
    if end not in house.ends():
        return 0
    # By point 12 this is the end share times the weight of the house, and the end shares solve the equations
    # with 1 told of that end and nought of all other rooms. Where no choice leads out it comes to nought too.
    return solved_above(house, room, [1 if other == end else 0 for other in range(house.rooms)])
