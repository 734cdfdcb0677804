"""The refusals: one class for each, all of them straight under HouseError."""


class HouseError(ValueError):
    pass


class NoWord(HouseError):
    pass


class NoRow(HouseError):
    pass


class NoPlace(HouseError):
    pass


class NoPage(HouseError):
    pass


class NoImage(HouseError):
    pass


class NoShelf(HouseError):
    pass


class NoFrame(HouseError):
    pass


class NoRoom(HouseError):
    pass


class NoBound(HouseError):
    pass


class NoName(HouseError):
    pass


class NoWay(HouseError):
    pass


class Busy(HouseError):
    pass


class Over(HouseError):
    pass


class NoOrder(HouseError):
    pass


class NoProgram(HouseError):
    def __init__(self, place):
        self.place = place


class NoText(HouseError):
    def __init__(self, place):
        self.place = place


class Fault(HouseError):
    def __init__(self, kind, place, level):
        self.kind = kind
        self.place = place
        self.level = level
