import unittest
from fractions import Fraction
from itertools import permutations
from math import gcd, lcm
from random import Random

from samples import (ENDING, GREAT, UNENDING, WRITTEN, Refusing, any_house, doors_from, full_house, inner_rooms, is_end,
                     mixed, no_rooms, shared_doors, small_houses, worth)

from endrooms.ends import end_shares, length, visits
from endrooms.errors import IsEnd, NoRoom, NoTaking
from endrooms.houses import House, comes_to_end
from endrooms.taking import taken_out

LIGHT = [house for house in ENDING + UNENDING if all(door[2] <= 20 for door in house.doors)]
SOME = [mixed(any_house(1 + seed % 7, 1 + seed * 3 % 49, 20, seed, seed % 2 if seed % 7 else 0), seed)
        for seed in range(90)]


def can_be_taken(house, room):
    return any(goal != room for start, goal, weight in doors_from(house, room))


def shares_without(house, room):
    """By the other rooms' old numbers, the shares between them once the room's doors lead on."""
    table = [[Fraction(0)] * house.rooms for start in range(house.rooms)]
    for start in range(house.rooms):
        for goal, share in shared_doors(house, start):
            table[start][goal] += share
    others = [other for other in range(house.rooms) if other != room]
    leaving = sum(table[room][other] for other in others)
    return [[table[start][goal] + table[start][room] * table[room][goal] / leaving for goal in others]
            for start in others]


def least_doors(shares):
    """The doors of least weights that have these shares."""
    doors = []
    for start, row in enumerate(shares):
        multiple = lcm(*[share.denominator for share in row])
        weights = [int(share * multiple) for share in row]
        divisor = gcd(*weights)
        doors += [(start, goal, weight // divisor) for goal, weight in enumerate(weights) if weight]
    return doors


def new_number(room, taken):
    return room - 1 if room > taken else room


def told(house):
    return (house.rooms, house.doors)


class TakenOut(Refusing):
    def test_written_out(self):
        house = House(4, [(0, 1, 1), (0, 2, 1), (1, 0, 1), (1, 3, 2)])
        self.assertEqual(told(taken_out(house, 1)), (3, [(0, 0, 1), (0, 1, 3), (0, 2, 2)]))
        self.assertEqual(told(taken_out(house, 0)), (3, [(0, 0, 1), (0, 1, 1), (0, 2, 4)]))

    def test_doors_to_itself_fall_away(self):
        house = House(3, [(0, 1, 4), (1, 1, 17), (1, 2, 3), (1, 0, 6), (1, 1, 2)])
        self.assertEqual(told(taken_out(house, 1)), (2, [(0, 0, 2), (0, 1, 1)]))

    def test_other_rooms_get_least_weights_and_one_door(self):
        house = House(4, [(2, 3, 6), (2, 2, 4), (2, 3, 6), (0, 1, 5), (1, 0, 1), (1, 3, 8)])
        self.assertEqual(told(taken_out(house, 0)), (3, [(0, 0, 1), (0, 2, 8), (1, 1, 1), (1, 2, 3)]))

    def test_doors_in_the_order_of_the_rooms(self):
        house = House(5, [(4, 3, 2), (4, 1, 3), (2, 4, 1), (2, 0, 5), (0, 2, 1), (0, 1, 1)])
        self.assertEqual(told(taken_out(house, 2)), (4, [(0, 0, 5), (0, 1, 6), (0, 3, 1), (3, 1, 3), (3, 2, 2)]))

    def test_a_room_left_with_itself_alone(self):
        self.assertEqual(told(taken_out(House(2, [(0, 1, 7), (1, 0, 3)]), 0)), (1, [(0, 0, 1)]))
        self.assertEqual(told(taken_out(House(2, [(0, 1, 7), (1, 0, 3)]), 1)), (1, [(0, 0, 1)]))

    def test_a_room_to_which_no_door_leads(self):
        self.assertEqual(told(taken_out(House(3, [(1, 2, 9), (1, 0, 3), (0, 2, 5)]), 1)), (2, [(0, 1, 1)]))
        self.assertEqual(told(taken_out(House(2, [(0, 1, 9)]), 0)), (1, []))

    def by_shares(self, house, room):
        left = taken_out(house, room)
        self.assertIs(type(left), House)
        self.assertEqual(left.rooms, house.rooms - 1)
        self.assertIs(type(left.doors), list)
        for door in left.doors:
            self.assertIs(type(door), tuple)
            self.assertEqual([type(part) for part in door], [int, int, int])
        self.assertEqual(left.doors, least_doors(shares_without(house, room)))
        return left

    def test_by_the_shares(self):
        for house in LIGHT + SOME:
            for room in range(house.rooms):
                if can_be_taken(house, room):
                    self.by_shares(house, room)

    def test_each_small_house(self):
        for rooms in range(1, 4):
            for house in small_houses(rooms):
                for room in range(rooms):
                    if can_be_taken(house, room):
                        self.by_shares(house, room)

    def test_one_behind_the_other(self):
        for house in LIGHT + SOME:
            while any(can_be_taken(house, room) for room in range(house.rooms)):
                room = [room for room in range(house.rooms) if can_be_taken(house, room)][-1]
                house = self.by_shares(house, room)

    def test_ends_stay_ends(self):
        for house in LIGHT + SOME:
            for room in range(house.rooms):
                if can_be_taken(house, room):
                    wanted = [new_number(end, room) for end in house.ends()]
                    self.assertEqual(taken_out(house, room).ends(), wanted)

    def test_what_comes_is_a_house(self):
        for house in LIGHT + SOME:
            for room in range(house.rooms):
                if can_be_taken(house, room):
                    left = taken_out(house, room)
                    self.assertEqual(told(House(left.rooms, left.doors)), told(left))
                    self.assertEqual(comes_to_end(left) or not comes_to_end(house), True)

    def test_heavier_doors_are_not_refused(self):
        for house in GREAT:
            while any(can_be_taken(house, room) for room in range(house.rooms)):
                house = self.by_shares(house, inner_rooms(house)[0])
            self.assertEqual(house.doors, [])


class WhatStays(Refusing):
    def test_end_shares_lengths_and_visits(self):
        for house in ENDING:
            for room in inner_rooms(house):
                left = taken_out(house, room)
                others = [other for other in range(house.rooms) if other != room]
                for start in others:
                    shares = end_shares(house, start)
                    self.assertEqual(end_shares(left, new_number(start, room)), [shares[other] for other in others])
                    for other in others:
                        if not is_end(house, other):
                            self.assertEqual(visits(left, new_number(start, room), new_number(other, room)),
                                             visits(house, start, other))
                    steps = worth(length(house, start)) - worth(visits(house, start, room))
                    self.assertEqual(worth(length(left, new_number(start, room))), steps)

    def test_the_house_handed_in_stays(self):
        for house in LIGHT + SOME:
            for room in range(house.rooms):
                if can_be_taken(house, room):
                    self.stays(house, taken_out, room)

    def test_own_lists(self):
        for house in LIGHT + SOME:
            for room in range(house.rooms):
                if can_be_taken(house, room):
                    first = taken_out(house, room)
                    kept = told(taken_out(house, room))
                    before = list(house.doors)
                    first.doors.clear()
                    self.assertEqual(house.doors, before)
                    self.assertEqual(told(taken_out(house, room)), kept)

    def test_the_house_asked_may_be_forgotten(self):
        doors = [(0, 1, 1), (1, 2, 1)]
        house = House(3, doors)
        left = taken_out(house, 0)
        doors.clear()
        house.doors.clear()
        self.assertEqual(told(left), (2, [(0, 1, 1)]))


class Orders(Refusing):
    def taken_in_order(self, house, rooms):
        """The rooms, by their first numbers, taken out one behind the other; None where one cannot be."""
        numbers = list(range(house.rooms))
        for room in rooms:
            if not can_be_taken(house, numbers.index(room)):
                return None
            house = taken_out(house, numbers.index(room))
            numbers.remove(room)
        return told(house)

    def in_each_order(self, house, rooms):
        orders = [self.taken_in_order(house, order) for order in permutations(rooms)]
        self.assertEqual(orders, [orders[0]] * len(orders), (house.doors, rooms))
        return orders[0]

    def test_two_rooms(self):
        for house in LIGHT + SOME:
            inner = inner_rooms(house)
            for one in inner:
                for other in inner:
                    if one < other:
                        self.in_each_order(house, [one, other])

    def test_three_rooms(self):
        for house in SOME:
            self.in_each_order(house, inner_rooms(house)[:3])
            self.in_each_order(house, inner_rooms(house)[-3:])

    def test_until_none_can_be_taken(self):
        for house in [house for house in ENDING if all(door[2] <= 20 for door in house.doors)][:40]:
            if len(inner_rooms(house)) < 6:
                left = self.in_each_order(house, inner_rooms(house))
                self.assertEqual(left, (len(house.ends()), []))

    def taken_by_chance(self, house, source):
        """The first numbers of rooms taken out one behind the other until none can be, and what is left."""
        numbers = list(range(house.rooms))
        taken = []
        while any(can_be_taken(house, room) for room in range(house.rooms)):
            room = source.choice([room for room in range(house.rooms) if can_be_taken(house, room)])
            house = taken_out(house, room)
            taken.append(numbers.pop(room))
        return (taken, told(house))

    def test_until_none_can_be_taken_in_mixed_orders(self):
        for seed, house in enumerate(LIGHT + SOME):
            source = Random(seed)
            taken, left = self.taken_by_chance(house, source)
            for turn in range(12):
                source.shuffle(taken)
                self.assertEqual(self.taken_in_order(house, taken), left, (house.doors, taken))

    def test_six_rooms_of_seven(self):
        house = full_house(lambda start, goal: 1 + (start * 5 + goal * 3) % 20)
        for count in range(1, 6):
            self.in_each_order(house, list(range(count)))
        orders = list(permutations(range(6)))[::37]
        self.assertEqual({str(self.taken_in_order(house, order)) for order in orders}, {"(1, [])"})

    def test_a_house_that_does_not_end(self):
        house = House(7, [(start, goal, 1 + (start * 3 + goal * 7) % 20) for start in range(7) for goal in range(7)])
        self.in_each_order(house, [6, 2, 0, 3])
        orders = list(permutations([0, 1, 3, 4, 6]))
        self.assertEqual(len({str(self.taken_in_order(house, order)) for order in orders}), 1)
        orders = list(permutations([0, 1, 2, 3, 4, 6]))[::31]
        self.assertEqual({str(self.taken_in_order(house, order)) for order in orders}, {"(1, [(0, 0, 1)])"})


class Refusals(Refusing):
    def test_no_room(self):
        for house in WRITTEN + UNENDING + [House(1, []), House(7, [])]:
            for room in no_rooms(house):
                self.refused(NoRoom, taken_out, house, room)

    def test_is_end(self):
        for house in ENDING + UNENDING:
            for end in house.ends():
                self.refused(IsEnd, taken_out, house, end)

    def test_all_doors_lead_to_itself(self):
        self.refused(NoTaking, taken_out, House(1, [(0, 0, 3)]), 0)
        self.refused(NoTaking, taken_out, House(2, [(1, 1, 3), (1, 1, 3), (0, 1, 1)]), 1)
        self.refused(NoTaking, taken_out, taken_out(House(2, [(0, 1, 7), (1, 0, 3)]), 0), 0)

    def test_where_none_is_due_nothing_is_refused(self):
        for rooms in range(1, 4):
            for house in small_houses(rooms):
                for room in range(rooms):
                    if is_end(house, room):
                        self.refused(IsEnd, taken_out, house, room)
                    elif not can_be_taken(house, room):
                        self.refused(NoTaking, taken_out, house, room)
                    else:
                        taken_out(house, room)

    def test_a_refusal_changes_nothing(self):
        house = House(2, [(1, 1, 3), (0, 1, 1)])
        self.refused(NoTaking, taken_out, house, 1)
        self.assertEqual(told(house), (2, [(1, 1, 3), (0, 1, 1)]))


if __name__ == "__main__":
    unittest.main()
