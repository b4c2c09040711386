import unittest

from endrooms.errors import IsEnd, NoFraction, NoHouse, NoRoom, NoTaking, RoomError, Unending

KINDS = (NoFraction, NoHouse, NoRoom, Unending, IsEnd, NoTaking)


class ErrorClasses(unittest.TestCase):
    def test_the_refusal_stands_straight_under_value_error(self):
        self.assertEqual(RoomError.__bases__, (ValueError,))

    def test_each_kind_stands_straight_under_the_refusal(self):
        for kind in KINDS:
            self.assertEqual(kind.__bases__, (RoomError,), kind)

    def test_no_kind_is_another_one(self):
        for one in KINDS:
            for other in KINDS:
                self.assertEqual(issubclass(one, other), one == other)

    def test_names(self):
        names = [kind.__name__ for kind in (RoomError,) + KINDS]
        self.assertEqual(names, ["RoomError", "NoFraction", "NoHouse", "NoRoom", "Unending", "IsEnd", "NoTaking"])


if __name__ == "__main__":
    unittest.main()
