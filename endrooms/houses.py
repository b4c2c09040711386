"""Houses: rooms, the weighted doors between them, and whether each walk can come to an end."""

from endrooms.errors import NoHouse, NoRoom
from endrooms.fractions import fraction


def check_door(rooms, door):
    if not 0 <= door[0] < rooms:
        raise NoHouse("a door leads from no room of the house")
    if not 0 <= door[1] < rooms:
        raise NoHouse("a door leads to no room of the house")
    if not 1 <= door[2] <= 10 ** 15:
        raise NoHouse("a door's weight is a whole number from 1 to 10 ** 15")


def check_house(rooms, doors):
    if not 1 <= rooms <= 7:
        raise NoHouse("a house has 1 to 7 rooms")
    if len(doors) > 49:
        raise NoHouse("a house has at most 49 doors")
    for door in doors:
        check_door(rooms, door)


def check_room(house, room):
    if not 0 <= room < house.rooms:
        raise NoRoom("the house has no room of that number")


class House:
    def __init__(self, rooms, doors):
        check_house(rooms, doors)
        self.rooms = rooms
        # A list of the house's own: the one handed in may be changed later.
        self.doors = list(doors)

    def ends(self):
        left = [door[0] for door in self.doors]
        return [room for room in range(self.rooms) if room not in left]

    def door_shares(self, room):
        check_room(self, room)
        weights = [0] * self.rooms
        for door in self.doors:
            if door[0] == room:
                weights[door[1]] += door[2]
        # An end has no weight to divide by; over 1 its noughts stay noughts.
        whole = max(sum(weights), 1)
        return [fraction(weight, whole) for weight in weights]


def comes_to_end(house):
    ends = house.ends()
    leads_out = [room in ends for room in range(house.rooms)]
    # Each turn finds the rooms one door farther from an end, and no way out is longer than the rooms are many.
    for turn in range(house.rooms):
        for door in house.doors:
            if leads_out[door[1]]:
                leads_out[door[0]] = True
    return all(leads_out)
