"""Houses for the tests, and answers reckoned from their doors alone with Python's own fractions."""

import unittest
from fractions import Fraction
from itertools import product
from random import Random

from endrooms.errors import IsEnd, NoFraction, NoHouse, NoRoom, NoTaking, RoomError, Unending
from endrooms.houses import House, comes_to_end

KINDS = (NoFraction, NoHouse, NoRoom, Unending, IsEnd, NoTaking)
MOST_WEIGHT = 10 ** 15


def told(number):
    return (number.numerator, number.denominator)


def worth(pair):
    return Fraction(pair[0], pair[1])


def no_rooms(house):
    return list(range(-100, 0)) + list(range(house.rooms, 101))


def doors_from(house, room):
    return [door for door in house.doors if door[0] == room]


def is_end(house, room):
    return not doors_from(house, room)


def inner_rooms(house):
    return [room for room in range(house.rooms) if not is_end(house, room)]


def shared_doors(house, room):
    """The doors of a room as (to, share)."""
    doors = doors_from(house, room)
    whole = sum(weight for start, goal, weight in doors)
    return [(goal, Fraction(weight, whole)) for start, goal, weight in doors]


def any_house(rooms, doors, most, seed, ends=0):
    """A house whose doors lead anywhere but from the last rooms, as many as `ends` says."""
    source = Random(seed)
    return House(rooms, [(source.randrange(rooms - ends), source.randrange(rooms), source.randint(1, most))
                         for door in range(doors)])


def mixed(house, seed):
    """The same house with its rooms numbered otherwise and its doors in another order."""
    source = Random(seed)
    numbers = list(range(house.rooms))
    source.shuffle(numbers)
    doors = [(numbers[start], numbers[goal], weight) for start, goal, weight in house.doors]
    source.shuffle(doors)
    return House(house.rooms, doors)


def ending_houses(most, count):
    """Houses of 1 to 7 rooms that end."""
    houses = []
    seed = 0
    while len(houses) < count:
        seed += 1
        rooms = 1 + seed % 7
        ends = 1 + seed // 7 % 3
        if ends < rooms:
            house = mixed(any_house(rooms, 1 + seed * 5 % 49, most, seed, ends), seed)
            if comes_to_end(house):
                houses.append(house)
    return houses


def full_house(weight_of):
    """Seven rooms, one end, and a door from each other room to each room."""
    return House(7, [(start, goal, weight_of(start, goal)) for start in range(6) for goal in range(7)])


def small_houses(rooms):
    """Each house of so many rooms with at most one door from room to room, with weights that differ."""
    pairs = list(product(range(rooms), repeat=2))
    for chosen in product((False, True), repeat=len(pairs)):
        yield House(rooms, [pair + (1 + place * place,) for place, (pair, taken) in enumerate(zip(pairs, chosen))
                            if taken])


WRITTEN = [
    House(2, [(0, 1, 1)]),
    House(2, [(1, 1, 5), (1, 0, 2), (1, 0, 2)]),
    House(4, [(1, 0, 1), (1, 2, 2), (2, 1, 3), (2, 3, 4)]),
    House(3, [(0, 1, 1), (0, 1, 1), (0, 2, 1), (1, 0, 3), (1, 1, 1)]),
    House(5, [(0, 1, 1), (1, 2, 1), (2, 0, 1), (2, 3, 1), (0, 4, 7)]),
    House(7, [(room, room + 1, 2) for room in range(6)] + [(room, room - 1, 3) for room in range(1, 6)]),
    full_house(lambda start, goal: 1),
    full_house(lambda start, goal: 1 + (start * 5 + goal * 3) % 20),
]
ENDS_ALONE = [House(rooms, []) for rooms in range(1, 8)]
GREAT = [
    House(2, [(0, 0, MOST_WEIGHT), (0, 1, 1)]),
    House(3, [(0, 1, MOST_WEIGHT), (0, 2, 1), (1, 0, MOST_WEIGHT), (1, 2, 1)]),
    House(3, [(0, 1, 1), (0, 2, MOST_WEIGHT), (0, 0, MOST_WEIGHT - 1)]),
    full_house(lambda start, goal: MOST_WEIGHT if (start + goal) % 3 else 1),
    full_house(lambda start, goal: MOST_WEIGHT - start * 7 - goal),
]
ENDING = WRITTEN + ENDS_ALONE + GREAT + ending_houses(20, 60) + ending_houses(MOST_WEIGHT, 15)
UNENDING = [
    House(1, [(0, 0, 3)]),
    House(2, [(0, 0, 1)]),
    House(2, [(0, 1, 1), (1, 0, 1)]),
    House(3, [(0, 1, 1), (0, 2, 1), (1, 1, 1)]),
    House(4, [(0, 1, 1), (1, 0, 2), (2, 3, 1), (2, 0, 5)]),
    House(7, [(room, (room + 1) % 7, 1 + room) for room in range(7)]),
    House(7, [(start, goal, 1 + start * goal) for start in range(7) for goal in range(7)]),
]


class Refusing(unittest.TestCase):
    def refused(self, wanted, call, *arguments):
        with self.assertRaises(wanted) as caught:
            call(*arguments)
        self.assertIs(type(caught.exception), wanted)
        self.assertIsInstance(caught.exception, RoomError)
        self.assertIsInstance(caught.exception, ValueError)
        for kind in KINDS:
            self.assertEqual(isinstance(caught.exception, kind), kind == wanted)

    def is_fraction(self, pair):
        self.assertIs(type(pair), tuple)
        self.assertEqual([type(part) for part in pair], [int, int])
        self.assertEqual(pair, told(Fraction(*pair)))

    def are_fractions(self, pairs, count):
        self.assertIs(type(pairs), list)
        self.assertEqual(len(pairs), count)
        for pair in pairs:
            self.is_fraction(pair)

    def stays(self, house, call, *arguments):
        """The house is the same behind the call, its list of doors too."""
        doors = house.doors
        before = (house.rooms, list(doors))
        call(house, *arguments)
        self.assertIs(house.doors, doors)
        self.assertEqual((house.rooms, house.doors), before)

    def told_anew(self, call, *arguments):
        """A list that is told may be changed, and the same is told again."""
        first = call(*arguments)
        kept = list(first)
        self.assertIsNot(call(*arguments), first)
        first[0] = (7, 3)
        first.append((1, 1))
        self.assertEqual(call(*arguments), kept)
        first.clear()
        self.assertEqual(call(*arguments), kept)
