import unittest
from fractions import Fraction

from samples import (ENDING, ENDS_ALONE, GREAT, MOST_WEIGHT, UNENDING, WRITTEN, Refusing, inner_rooms, is_end, no_rooms,
                     shared_doors, worth)

from endrooms.ends import end_shares, length, visits
from endrooms.errors import IsEnd, NoRoom, Unending
from endrooms.houses import House
from endrooms.walks import behind


class EndShares(Refusing):
    def test_written_out(self):
        house = House(4, [(1, 0, 1), (1, 2, 2), (2, 1, 3), (2, 3, 4)])
        self.assertEqual(end_shares(house, 0), [(1, 1), (0, 1), (0, 1), (0, 1)])
        self.assertEqual(end_shares(house, 1), [(7, 15), (0, 1), (0, 1), (8, 15)])
        self.assertEqual(end_shares(house, 2), [(1, 5), (0, 1), (0, 1), (4, 5)])
        self.assertEqual(end_shares(house, 3), [(0, 1), (0, 1), (0, 1), (1, 1)])

    def test_along_a_row_of_rooms(self):
        doors = [(room, room + 1, 1) for room in range(1, 6)] + [(room, room - 1, 1) for room in range(1, 6)]
        house = House(7, doors)
        for room in range(7):
            shares = [worth(pair) for pair in end_shares(house, room)]
            self.assertEqual(shares, [Fraction(6 - room, 6), 0, 0, 0, 0, 0, Fraction(room, 6)])

    def test_doors_to_itself_and_doors_alike(self):
        house = House(3, [(1, 1, MOST_WEIGHT), (1, 0, 2), (1, 2, 5), (1, 0, 2), (1, 1, 3), (1, 2, 3)])
        self.assertEqual(end_shares(house, 1), [(1, 3), (0, 1), (2, 3)])

    def test_weights_from_1_to_the_greatest(self):
        house = House(3, [(0, 1, MOST_WEIGHT), (0, 2, 1)])
        self.assertEqual(end_shares(house, 0), [(0, 1), (MOST_WEIGHT, MOST_WEIGHT + 1), (1, MOST_WEIGHT + 1)])

    def test_from_an_end(self):
        for house in ENDING:
            for end in house.ends():
                wanted = [(1, 1) if other == end else (0, 1) for other in range(house.rooms)]
                self.assertEqual(end_shares(house, end), wanted)

    def test_from_another_room(self):
        for house in ENDING:
            rows = [end_shares(house, room) for room in range(house.rooms)]
            for room in inner_rooms(house):
                self.are_fractions(rows[room], house.rooms)
                for end in range(house.rooms):
                    wanted = sum(share * worth(rows[goal][end]) for goal, share in shared_doors(house, room))
                    self.assertEqual(worth(rows[room][end]), wanted)

    def test_nought_for_rooms_that_are_no_ends(self):
        for house in ENDING:
            for room in range(house.rooms):
                shares = end_shares(house, room)
                self.assertEqual([shares[other] for other in inner_rooms(house)], [(0, 1)] * len(inner_rooms(house)))

    def test_not_below_nought_and_1_together(self):
        for house in ENDING:
            for room in range(house.rooms):
                shares = [worth(pair) for pair in end_shares(house, room)]
                self.assertGreaterEqual(min(shares), 0)
                self.assertEqual(sum(shares), 1)

    def test_between_the_bounds_behind_any_steps(self):
        for house in ENDING:
            for room in range(house.rooms):
                shares = [worth(pair) for pair in end_shares(house, room)]
                for steps in (0, 1, 2, 3, 5, 9, 20):
                    standing = [worth(pair) for pair in behind(house, room, steps)]
                    walking = sum(standing[other] for other in inner_rooms(house))
                    for end in house.ends():
                        self.assertLessEqual(standing[end], shares[end])
                        self.assertLessEqual(shares[end], standing[end] + walking)

    def test_own_lists(self):
        for house in ENDING:
            for room in range(house.rooms):
                self.told_anew(end_shares, house, room)

    def test_the_house_stays(self):
        for house in ENDING:
            self.stays(house, end_shares, 0)


class Lengths(Refusing):
    def test_written_out(self):
        house = House(4, [(1, 0, 1), (1, 2, 2), (2, 1, 3), (2, 3, 4)])
        self.assertEqual([length(house, room) for room in range(4)], [(0, 1), (7, 3), (2, 1), (0, 1)])

    def test_a_door_to_itself(self):
        self.assertEqual(length(House(2, [(0, 0, 3), (0, 1, 1)]), 0), (4, 1))
        self.assertEqual(length(House(2, [(0, 0, MOST_WEIGHT), (0, 1, 1)]), 0), (MOST_WEIGHT + 1, 1))

    def test_along_a_row_of_rooms(self):
        doors = [(room, room + 1, 1) for room in range(1, 6)] + [(room, room - 1, 1) for room in range(1, 6)]
        self.assertEqual([length(House(7, doors), room) for room in range(7)],
                         [(room * (6 - room), 1) for room in range(7)])

    def test_from_an_end(self):
        for house in ENDING:
            for end in house.ends():
                self.assertEqual(length(house, end), (0, 1))

    def test_from_another_room(self):
        for house in ENDING:
            lengths = [length(house, room) for room in range(house.rooms)]
            for room in inner_rooms(house):
                self.is_fraction(lengths[room])
                wanted = 1 + sum(share * worth(lengths[goal]) for goal, share in shared_doors(house, room))
                self.assertEqual(worth(lengths[room]), wanted)

    def test_the_house_stays(self):
        for house in ENDING:
            self.stays(house, length, 0)


class Visits(Refusing):
    def test_written_out(self):
        house = House(4, [(1, 0, 1), (1, 2, 2), (2, 1, 3), (2, 3, 4)])
        self.assertEqual([visits(house, room, 1) for room in range(4)], [(0, 1), (7, 5), (3, 5), (0, 1)])
        self.assertEqual([visits(house, room, 2) for room in range(4)], [(0, 1), (14, 15), (7, 5), (0, 1)])

    def test_a_door_to_itself(self):
        self.assertEqual(visits(House(2, [(0, 0, 3), (0, 1, 1)]), 0, 0), (4, 1))

    def test_a_room_that_is_not_come_to(self):
        house = House(3, [(0, 1, 1), (1, 2, 1)])
        self.assertEqual(visits(house, 1, 0), (0, 1))
        self.assertEqual(visits(house, 0, 1), (1, 1))

    def test_by_the_doors(self):
        for house in ENDING:
            for other in inner_rooms(house):
                told = [visits(house, room, other) for room in range(house.rooms)]
                for room in range(house.rooms):
                    self.is_fraction(told[room])
                    wanted = int(room == other)
                    wanted += sum(share * worth(told[goal]) for goal, share in shared_doors(house, room))
                    self.assertEqual(worth(told[room]), 0 if is_end(house, room) else wanted)

    def test_come_to_the_length(self):
        for house in ENDING:
            for room in range(house.rooms):
                together = sum(worth(visits(house, room, other)) for other in inner_rooms(house))
                self.assertEqual(together, worth(length(house, room)))

    def test_end_shares_by_visits(self):
        for house in ENDING:
            for room in inner_rooms(house):
                shares = end_shares(house, room)
                for end in house.ends():
                    together = Fraction(0)
                    for other in inner_rooms(house):
                        leading = sum(share for goal, share in shared_doors(house, other) if goal == end)
                        together += worth(visits(house, room, other)) * leading
                    self.assertEqual(worth(shares[end]), together)

    def test_the_house_stays(self):
        for house in ENDING:
            if inner_rooms(house):
                self.stays(house, visits, 0, inner_rooms(house)[0])


class Refusals(Refusing):
    def test_no_room(self):
        for house in WRITTEN + ENDS_ALONE + GREAT + UNENDING:
            for room in no_rooms(house):
                self.refused(NoRoom, end_shares, house, room)
                self.refused(NoRoom, length, house, room)
                self.refused(NoRoom, visits, house, room, room)

    def test_no_room_in_either_place_before_all_else(self):
        for house in WRITTEN + ENDS_ALONE + UNENDING:
            for room in range(house.rooms):
                for other in no_rooms(house):
                    self.refused(NoRoom, visits, house, other, room)
                    self.refused(NoRoom, visits, house, room, other)

    def test_unending(self):
        for house in UNENDING:
            for room in range(house.rooms):
                self.refused(Unending, end_shares, house, room)
                self.refused(Unending, length, house, room)
                for other in range(house.rooms):
                    self.refused(Unending, visits, house, room, other)

    def test_is_end(self):
        for house in ENDING:
            for room in range(house.rooms):
                for end in house.ends():
                    self.refused(IsEnd, visits, house, room, end)

    def test_refusals_change_nothing(self):
        house = House(3, [(0, 1, 1), (0, 2, 1), (1, 1, 1)])
        self.refused(Unending, end_shares, house, 0)
        self.refused(NoRoom, length, house, 3)
        self.assertEqual((house.rooms, house.doors), (3, [(0, 1, 1), (0, 2, 1), (1, 1, 1)]))


if __name__ == "__main__":
    unittest.main()
