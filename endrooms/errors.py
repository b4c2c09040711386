"""The refusals: one class for each, all of them under RoomError."""


class RoomError(ValueError):
    pass


class NoFraction(RoomError):
    pass


class NoHouse(RoomError):
    pass


class NoRoom(RoomError):
    pass


class Unending(RoomError):
    pass


class IsEnd(RoomError):
    pass


class NoTaking(RoomError):
    pass
