import unittest
from itertools import product
from math import prod

from samples import (ENDING, ENDS_ALONE, GREAT, MOST_WEIGHT, UNENDING, WRITTEN, Refusing, any_house, doors_from,
                     full_house, inner_rooms, mixed, no_rooms, small_houses, worth)

from endrooms.choices import choice_weight, weight
from endrooms.ends import end_shares
from endrooms.errors import NoRoom
from endrooms.houses import House, comes_to_end


def come_to(taken, room):
    """The end to which the taken doors lead, or None where they lead round and round."""
    for turn in range(8):
        if room not in taken:
            return room
        room = taken[room][1]
    return None


def all_choices(house):
    """The weight of the house and, by room and end, of its choices, gone through one by one."""
    inner = inner_rooms(house)
    whole = 0
    parts = [[0] * house.rooms for room in range(house.rooms)]
    for doors in product(*[doors_from(house, room) for room in inner]):
        taken = dict(zip(inner, doors))
        goals = [come_to(taken, room) for room in range(house.rooms)]
        if None not in goals:
            here = prod(door[2] for door in doors)
            whole += here
            for room, goal in enumerate(goals):
                parts[room][goal] += here
    return (whole, parts)


class Choices(Refusing):
    def by_going_through(self, house):
        whole, parts = all_choices(house)
        self.assertIs(type(weight(house)), int)
        self.assertEqual(weight(house), whole, house.doors)
        for room in range(house.rooms):
            for end in range(house.rooms):
                answer = choice_weight(house, room, end)
                self.assertIs(type(answer), int)
                self.assertEqual(answer, parts[room][end], (house.doors, room, end))

    def test_written_out(self):
        house = House(4, [(1, 0, 1), (1, 2, 2), (2, 1, 3), (2, 3, 4)])
        self.assertEqual(weight(house), 1 * 3 + 1 * 4 + 2 * 4)
        self.assertEqual([choice_weight(house, 1, end) for end in range(4)], [7, 0, 0, 8])
        self.assertEqual([choice_weight(house, 2, end) for end in range(4)], [3, 0, 0, 12])
        self.assertEqual([choice_weight(house, 0, end) for end in range(4)], [15, 0, 0, 0])

    def test_doors_alike_count_each(self):
        house = House(3, [(0, 1, 2), (0, 1, 2), (0, 2, 5), (0, 0, 9), (0, 0, 9)])
        self.assertEqual(weight(house), 9)
        self.assertEqual([choice_weight(house, 0, end) for end in range(3)], [0, 4, 5])

    def test_trees_of_a_full_house(self):
        self.assertEqual(weight(full_house(lambda start, goal: 1)), 7 ** 5)
        self.assertEqual(weight(full_house(lambda start, goal: MOST_WEIGHT)), 7 ** 5 * 10 ** 90)

    def test_each_small_house(self):
        for rooms in range(1, 4):
            for house in small_houses(rooms):
                self.by_going_through(house)

    def test_houses_of_four_to_seven_rooms(self):
        for seed in range(160):
            house = mixed(any_house(4 + seed % 4, 3 + seed % 11, 20, seed, seed % 3), seed)
            self.by_going_through(house)

    def test_written_houses(self):
        for house in WRITTEN[:6] + GREAT[:3] + UNENDING[:5]:
            self.by_going_through(house)

    def test_weights_side_by_side(self):
        for seed in range(20):
            self.by_going_through(mixed(any_house(5, 12, MOST_WEIGHT, seed, 2), seed))

    def test_ends_alone(self):
        for house in ENDS_ALONE:
            self.assertEqual(weight(house), 1)
            for room in range(house.rooms):
                for end in range(house.rooms):
                    self.assertEqual(choice_weight(house, room, end), int(room == end))

    def test_a_house_that_does_not_end(self):
        for house in UNENDING:
            self.assertEqual(weight(house), 0)
            for room in range(house.rooms):
                for end in range(house.rooms):
                    self.assertEqual(choice_weight(house, room, end), 0)

    def test_above_nought_just_where_the_house_ends(self):
        for seed in range(300):
            house = mixed(any_house(1 + seed % 7, 1 + seed % 13, 20, seed), seed)
            self.assertEqual(weight(house) > 0, comes_to_end(house))
        for house in ENDING:
            self.assertGreater(weight(house), 0)

    def test_a_room_in_the_place_of_the_end_that_is_none(self):
        for house in ENDING:
            for room in range(house.rooms):
                for other in inner_rooms(house):
                    self.assertEqual(choice_weight(house, room, other), 0)

    def test_end_shares_by_choices(self):
        for house in ENDING:
            for room in range(house.rooms):
                shares = end_shares(house, room)
                for end in house.ends():
                    self.assertEqual(worth(shares[end]) * weight(house), choice_weight(house, room, end))

    def test_no_room(self):
        for house in WRITTEN + ENDS_ALONE + UNENDING:
            for other in no_rooms(house):
                for room in range(house.rooms):
                    self.refused(NoRoom, choice_weight, house, other, room)
                    self.refused(NoRoom, choice_weight, house, room, other)
                self.refused(NoRoom, choice_weight, house, other, other)

    def test_the_house_stays(self):
        for house in ENDING + UNENDING:
            self.stays(house, weight)
            self.stays(house, choice_weight, 0, house.rooms - 1)


if __name__ == "__main__":
    unittest.main()
