"""The refusals of the program, a class for each."""


class TileError(ValueError):
    pass


class NoNumber(TileError):
    pass


class NoNet(TileError):
    pass


class NoBell(TileError):
    pass


class NoSum(TileError):
    pass


class TooMany(TileError):
    pass


class NoText(TileError):
    pass


class NoPost(TileError):
    pass


class Fallen(TileError):
    pass


class NoRun(TileError):
    pass


class Gone(TileError):
    pass


class NoRow(TileError):
    pass


class NoWish(TileError):
    def __init__(self, at):
        TileError.__init__(self, "wishes are a list" if at is None else f"number {at} of the list is no wish")
        self.at = at
