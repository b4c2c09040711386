import unittest
from fractions import Fraction
from itertools import product

from samples import MOST_WEIGHT, Refusing

from endrooms.errors import NoHouse, NoRoom
from endrooms.houses import House, comes_to_end

ALL_PAIRS = [(start, goal) for start in range(7) for goal in range(7)]


class Taken(unittest.TestCase):
    def test_rooms_without_doors(self):
        for rooms in range(1, 8):
            house = House(rooms, [])
            self.assertEqual(house.rooms, rooms)
            self.assertEqual(house.doors, [])
            self.assertEqual(house.ends(), list(range(rooms)))

    def test_any_number_of_doors(self):
        for count in range(50):
            doors = [(start, goal, 1 + start * goal) for start, goal in ALL_PAIRS[:count]]
            house = House(7, doors)
            self.assertEqual(house.rooms, 7)
            self.assertEqual(house.doors, doors)
            self.assertEqual(house.ends(), list(range((count + 6) // 7, 7)))

    def test_forty_nine_doors_in_one_room(self):
        doors = [(0, 0, 3)] * 49
        house = House(1, doors)
        self.assertEqual(house.doors, doors)
        self.assertEqual(house.ends(), [])

    def test_least_and_greatest_weight(self):
        doors = [(0, 1, 1), (0, 2, MOST_WEIGHT), (1, 0, MOST_WEIGHT - 1)]
        self.assertEqual(House(3, doors).doors, doors)

    def test_doors_alike_and_doors_to_the_room_itself(self):
        doors = [(1, 0, 2), (1, 0, 2), (1, 1, 5), (1, 0, 3), (1, 1, 5)]
        house = House(2, doors)
        self.assertEqual(house.doors, doors)
        self.assertEqual(house.ends(), [0])

    def test_doors_keep_their_order(self):
        doors = [(2, 0, 9), (0, 1, 4), (2, 0, 1), (0, 0, 7)]
        self.assertEqual(House(3, doors).doors, doors)

    def test_fields_are_of_the_told_kinds(self):
        house = House(3, [(2, 0, 9)])
        self.assertIs(type(house.rooms), int)
        self.assertIs(type(house.doors), list)
        self.assertIs(type(house.doors[0]), tuple)
        self.assertIs(type(house.ends()), list)


class Ends(unittest.TestCase):
    def test_rising(self):
        self.assertEqual(House(6, [(4, 5, 1), (1, 0, 1), (4, 3, 2)]).ends(), [0, 2, 3, 5])
        self.assertEqual(House(7, [(3, 6, 1)]).ends(), [0, 1, 2, 4, 5, 6])

    def test_a_door_to_itself_leads_from_the_room_too(self):
        self.assertEqual(House(2, [(0, 0, 1)]).ends(), [1])

    def test_none(self):
        self.assertEqual(House(2, [(0, 1, 1), (1, 0, 1)]).ends(), [])

    def test_each_set_of_rooms_with_doors(self):
        for left in product((False, True), repeat=7):
            doors = [(room, (room + 1) % 7, 1) for room in reversed(range(7)) if left[room]]
            self.assertEqual(House(7, doors).ends(), [room for room in range(7) if not left[room]])


class NoHouses(Refusing):
    def test_rooms(self):
        for rooms in list(range(-100, 1)) + list(range(8, 101)):
            self.refused(NoHouse, House, rooms, [])
            self.refused(NoHouse, House, rooms, [(0, 0, 1)])

    def test_too_many_doors(self):
        for count in (50, 51, 100):
            self.refused(NoHouse, House, 1, [(0, 0, 1)] * count)
        self.refused(NoHouse, House, 7, [pair + (1,) for pair in ALL_PAIRS] + [(3, 4, 1)])

    def test_a_bad_door_at_whatever_place(self):
        for rooms in range(1, 8):
            bad = [(room, 0, 1) for room in (-1, -rooms, rooms, rooms + 1, 10 ** 18, -10 ** 18)]
            bad += [(0, room, 1) for room in (-1, -rooms, rooms, rooms + 1, 10 ** 18, -10 ** 18)]
            bad += [(0, 0, weight) for weight in (0, -1, -MOST_WEIGHT, MOST_WEIGHT + 1, 10 ** 18, -10 ** 18)]
            for door in bad:
                for before, behind in ((0, 0), (0, 1), (1, 0), (2, 2), (0, 48), (24, 24), (48, 0)):
                    doors = [(0, rooms - 1, 1)] * before + [door] + [(rooms - 1, 0, 1)] * behind
                    self.refused(NoHouse, House, rooms, doors)

    def test_a_refusal_changes_nothing_handed_in(self):
        doors = [(0, 1, 1), (1, 7, 0)]
        self.refused(NoHouse, House, 2, doors)
        self.assertEqual(doors, [(0, 1, 1), (1, 7, 0)])


class OwnLists(unittest.TestCase):
    def told(self, house):
        shares = [house.door_shares(room) for room in range(house.rooms)]
        return (house.rooms, list(house.doors), house.ends(), shares, comes_to_end(house))

    def test_the_list_handed_in_may_be_changed_later(self):
        doors = [(0, 1, 2), (0, 2, 3), (1, 0, 1)]
        house = House(3, doors)
        before = self.told(house)
        doors.append((2, 0, 1))
        self.assertEqual(self.told(house), before)
        doors[0] = (2, 2, 5)
        self.assertEqual(self.told(house), before)
        doors.clear()
        self.assertEqual(self.told(house), before)

    def test_what_is_handed_in_is_not_changed(self):
        doors = [(2, 1, 2), (0, 2, 3), (2, 1, 2), (0, 0, 1)]
        self.told(House(3, doors))
        self.assertEqual(doors, [(2, 1, 2), (0, 2, 3), (2, 1, 2), (0, 0, 1)])

    def test_two_houses_of_one_list(self):
        doors = [(0, 1, 2)]
        self.assertIsNot(House(2, doors).doors, House(2, doors).doors)

    def test_ends_told_may_be_changed(self):
        house = House(3, [(0, 1, 2)])
        before = self.told(house)
        told = house.ends()
        self.assertIsNot(told, house.ends())
        told.append(0)
        told[0] = 9
        self.assertEqual(self.told(house), before)

    def test_door_shares_told_may_be_changed(self):
        house = House(3, [(0, 1, 2), (0, 2, 1), (1, 2, 4)])
        before = self.told(house)
        for room in range(3):
            told = house.door_shares(room)
            self.assertIsNot(told, house.door_shares(room))
            told[0] = (7, 3)
            told.append((1, 1))
            self.assertEqual(self.told(house), before)

    def test_shares_of_two_ends_are_two_lists(self):
        house = House(2, [])
        one = house.door_shares(0)
        other = house.door_shares(1)
        one[0] = (1, 1)
        self.assertEqual(other, [(0, 1), (0, 1)])


class DoorShares(Refusing):
    def expected(self, house, room):
        whole = sum(weight for start, goal, weight in house.doors if start == room)
        shares = []
        for there in range(house.rooms):
            weights = sum(weight for start, goal, weight in house.doors if (start, goal) == (room, there))
            share = Fraction(weights, whole) if whole else Fraction(0)
            shares.append((share.numerator, share.denominator))
        return shares

    def test_written_out(self):
        house = House(4, [(0, 1, 2), (0, 2, 3), (0, 1, 1), (0, 0, 6), (1, 3, 5), (2, 2, 4)])
        self.assertEqual(house.door_shares(0), [(1, 2), (1, 4), (1, 4), (0, 1)])
        self.assertEqual(house.door_shares(1), [(0, 1), (0, 1), (0, 1), (1, 1)])
        self.assertEqual(house.door_shares(2), [(0, 1), (0, 1), (1, 1), (0, 1)])
        self.assertEqual(house.door_shares(3), [(0, 1), (0, 1), (0, 1), (0, 1)])

    def test_ends_have_noughts(self):
        for rooms in range(1, 8):
            house = House(rooms, [])
            for room in range(rooms):
                self.assertEqual(house.door_shares(room), [(0, 1)] * rooms)

    def test_great_weights(self):
        house = House(2, [(0, 1, MOST_WEIGHT), (0, 0, MOST_WEIGHT - 1)])
        whole = 2 * MOST_WEIGHT - 1
        self.assertEqual(house.door_shares(0), [(MOST_WEIGHT - 1, whole), (MOST_WEIGHT, whole)])
        house = House(7, [(5, 6, MOST_WEIGHT)] * 48 + [(5, 0, 1)])
        whole = 48 * MOST_WEIGHT + 1
        self.assertEqual(house.door_shares(5), [(1, whole)] + [(0, 1)] * 5 + [(48 * MOST_WEIGHT, whole)])

    def test_many_houses(self):
        for rooms in range(1, 8):
            for seed in range(1, 40):
                doors = [(place * seed % rooms, (place * place + seed // 3) % rooms, 1 + place * seed * 7 % 23)
                         for place in range(seed * 5 % 50)]
                house = House(rooms, doors)
                for room in range(rooms):
                    self.assertEqual(house.door_shares(room), self.expected(house, room))

    def test_no_room(self):
        for rooms in range(1, 8):
            for house in (House(rooms, []), House(rooms, [(0, rooms - 1, 3)])):
                for room in list(range(-100, 0)) + list(range(rooms, 101)):
                    self.refused(NoRoom, house.door_shares, room)


class ComesToEnd(unittest.TestCase):
    def walks_out(self, house, room):
        seen = [room]
        for here in seen:
            seen += {goal for start, goal, weight in house.doors if start == here} - set(seen)
        return any(all(start != here for start, goal, weight in house.doors) for here in seen)

    def test_ends_alone(self):
        for rooms in range(1, 8):
            self.assertIs(comes_to_end(House(rooms, [])), True)

    def test_a_long_way_round(self):
        forward = [(room, room + 1, 1) for room in range(6)]
        back = [(room, room - 1, 1) for room in range(1, 6)]
        for doors in (forward, forward[::-1], forward + back, (forward + back)[::-1]):
            self.assertIs(comes_to_end(House(7, doors)), True)
        mirrored = [(6 - start, 6 - goal, weight) for start, goal, weight in forward]
        for doors in (mirrored, mirrored[::-1]):
            self.assertIs(comes_to_end(House(7, doors)), True)

    def test_a_room_whose_only_doors_lead_to_itself(self):
        self.assertIs(comes_to_end(House(1, [(0, 0, 1)])), False)
        self.assertIs(comes_to_end(House(2, [(0, 0, 1), (0, 0, 4)])), False)
        self.assertIs(comes_to_end(House(3, [(0, 1, 1), (0, 2, 1), (1, 1, 1)])), False)

    def test_a_room_with_a_door_to_itself_and_one_out(self):
        self.assertIs(comes_to_end(House(2, [(0, 0, MOST_WEIGHT), (0, 1, 1)])), True)

    def test_two_rooms_that_lead_only_to_one_another(self):
        self.assertIs(comes_to_end(House(4, [(0, 1, 1), (1, 0, 1), (2, 3, 1)])), False)
        self.assertIs(comes_to_end(House(4, [(0, 1, 1), (1, 0, 1), (2, 3, 1), (2, 0, 1)])), False)
        self.assertIs(comes_to_end(House(4, [(0, 1, 1), (1, 0, 1), (2, 3, 1), (1, 2, 1)])), True)

    def test_without_an_end(self):
        self.assertIs(comes_to_end(House(7, [(room, (room + 1) % 7, 1) for room in range(7)])), False)
        self.assertIs(comes_to_end(House(7, [pair + (1,) for pair in ALL_PAIRS])), False)

    def test_each_small_house(self):
        for rooms in range(1, 4):
            pairs = [(start, goal) for start in range(rooms) for goal in range(rooms)]
            for chosen in product((False, True), repeat=len(pairs)):
                doors = [pair + (1,) for pair, taken in zip(pairs, chosen) if taken]
                house = House(rooms, doors)
                wanted = all(self.walks_out(house, room) for room in range(rooms))
                self.assertIs(comes_to_end(house), wanted, doors)

    def test_houses_of_one_door_a_room(self):
        for goals in product(range(5), repeat=4):
            house = House(5, [(room, goal, 1) for room, goal in enumerate(goals)])
            wanted = all(self.walks_out(house, room) for room in range(5))
            self.assertIs(comes_to_end(house), wanted, goals)

    def test_the_house_is_not_changed(self):
        house = House(3, [(0, 1, 1), (1, 0, 1)])
        comes_to_end(house)
        self.assertEqual((house.rooms, house.doors), (3, [(0, 1, 1), (1, 0, 1)]))


if __name__ == "__main__":
    unittest.main()
