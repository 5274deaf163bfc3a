"""The refusals. Each stands straight under BoardError, so that taking one never takes another."""


class BoardError(ValueError):
    pass


class NoSite(BoardError):
    pass


class NoExit(BoardError):
    pass


class NoPlace(BoardError):
    pass


class NoMarble(BoardError):
    pass


class TooMany(BoardError):
    pass


class NotOpen(BoardError):
    pass


class NotBare(BoardError):
    pass


class NotTree(BoardError):
    pass


class TooLong(BoardError):
    pass


class NoBoard(BoardError):
    pass
