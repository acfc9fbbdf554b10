"""The refusals: each has a class of its own, and none stands under another one."""


class BoardError(ValueError):
    pass


class NoLine(BoardError):
    pass


class NoBoard(BoardError):
    pass


class NoPegs(BoardError):
    pass


class NoPicture(BoardError):
    pass


class NoBar(BoardError):
    pass


class NotTop(BoardError):
    def __init__(self, line, top):
        BoardError.__init__(self, "the line is not the top of the pile")
        self.line = line
        self.top = top


class NoDeed(BoardError):
    def __init__(self, place):
        BoardError.__init__(self, "the row holds a thing that is no deed")
        self.place = place
