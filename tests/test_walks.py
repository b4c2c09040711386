import unittest
from fractions import Fraction

from samples import ENDING, GREAT, UNENDING, WRITTEN, Refusing, full_house, is_end, no_rooms, shared_doors, told, worth

from endrooms.errors import NoRoom
from endrooms.houses import House
from endrooms.walks import behind

HOUSES = ENDING + UNENDING


def one_step(house, shares):
    """What the doors' shares make of the shares before."""
    after = [Fraction(0)] * house.rooms
    for room in range(house.rooms):
        if is_end(house, room):
            after[room] += shares[room]
        for goal, share in shared_doors(house, room):
            after[goal] += shares[room] * share
    return after


class Behind(Refusing):
    def test_written_out(self):
        house = House(3, [(0, 0, 1), (0, 1, 2), (0, 2, 1), (1, 0, 1)])
        self.assertEqual(behind(house, 0, 0), [(1, 1), (0, 1), (0, 1)])
        self.assertEqual(behind(house, 0, 1), [(1, 4), (1, 2), (1, 4)])
        self.assertEqual(behind(house, 0, 2), [(9, 16), (1, 8), (5, 16)])
        self.assertEqual(behind(house, 1, 1), [(1, 1), (0, 1), (0, 1)])
        self.assertEqual(behind(house, 2, 20), [(0, 1), (0, 1), (1, 1)])

    def test_round_and_round(self):
        house = House(7, [(room, (room + 1) % 7, 4) for room in range(7)])
        for steps in range(21):
            for room in range(7):
                wanted = [(1, 1) if other == (room + steps) % 7 else (0, 1) for other in range(7)]
                self.assertEqual(behind(house, room, steps), wanted)

    def test_behind_no_step(self):
        for house in HOUSES:
            for room in range(house.rooms):
                wanted = [(1, 1) if other == room else (0, 1) for other in range(house.rooms)]
                self.assertEqual(behind(house, room, 0), wanted)

    def test_behind_one_more_step(self):
        for house in HOUSES:
            for room in range(house.rooms):
                shares = [worth(pair) for pair in behind(house, room, 0)]
                for steps in range(1, 6):
                    shares = one_step(house, shares)
                    answer = behind(house, room, steps)
                    self.are_fractions(answer, house.rooms)
                    self.assertEqual(answer, [told(share) for share in shares])

    def test_twenty_steps(self):
        for house in WRITTEN + GREAT + UNENDING:
            shares = [worth(pair) for pair in behind(house, 0, 0)]
            for steps in range(1, 21):
                shares = one_step(house, shares)
            self.assertEqual(behind(house, 0, 20), [told(share) for share in shares])

    def test_the_shares_come_to_1(self):
        for house in HOUSES:
            for room in range(house.rooms):
                for steps in (0, 1, 2, 7, 20):
                    self.assertEqual(sum(worth(pair) for pair in behind(house, room, steps)), 1)

    def test_an_end_keeps_its_own(self):
        for house in HOUSES:
            for room in range(house.rooms):
                before = behind(house, room, 3)
                after = behind(house, room, 4)
                for end in house.ends():
                    self.assertGreaterEqual(worth(after[end]), worth(before[end]))
                if is_end(house, room):
                    self.assertEqual(after[room], (1, 1))

    def test_somewhat_more_steps_are_not_refused(self):
        house = House(2, [(0, 0, 1), (0, 1, 1)])
        self.assertEqual(behind(house, 0, 25), [(1, 2 ** 25), (2 ** 25 - 1, 2 ** 25)])

    def test_no_room(self):
        for house in WRITTEN + UNENDING + [House(1, []), House(7, [])]:
            for room in no_rooms(house):
                for steps in (0, 1, 20):
                    self.refused(NoRoom, behind, house, room, steps)

    def test_own_lists(self):
        for house in HOUSES:
            for steps in (0, 1, 4):
                self.told_anew(behind, house, house.rooms - 1, steps)

    def test_a_list_told_and_changed_changes_no_later_step(self):
        house = full_house(lambda start, goal: 1 + start + goal)
        wanted = [behind(house, 2, steps) for steps in range(6)]
        for steps in range(6):
            behind(house, 2, steps).clear()
        self.assertEqual([behind(house, 2, steps) for steps in range(6)], wanted)

    def test_the_house_stays(self):
        for house in HOUSES:
            self.stays(house, behind, 0, 3)


if __name__ == "__main__":
    unittest.main()
