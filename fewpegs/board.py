"""What both boards have: the deeds, the refusals and the picture."""

from fewpegs.errors import NoBar, NoBoard, NoLine, NoPicture, NotTop
from fewpegs.ranks import is_whole

MOST_LINES = 60


def is_up_to(most, thing):
    return is_whole(thing) and 0 <= thing <= most


def is_rank(thing):
    return is_up_to(10 ** 60 - 1, thing)


def is_bar(thing):
    return thing is None or is_up_to(10 ** 60, thing)


def is_line(ranks, thing):
    return is_up_to(len(ranks) - 1, thing)


def are_ranks(thing):
    if not isinstance(thing, list):
        return False
    return 1 <= len(thing) <= MOST_LINES and all([is_rank(part) for part in thing])


def are_lines(ranks, thing):
    return isinstance(thing, list) and all([is_line(ranks, part) for part in thing])


def rises(numbers):
    return all([one < other for one, other in zip(numbers, numbers[1:])])


def are_rising_lines(ranks, thing):
    return are_lines(ranks, thing) and rises(thing)


def is_pile(ranks, thing):
    return are_lines(ranks, thing) and rises([ranks[line] for line in reversed(thing)])


def is_picture(ranks, thing):
    if not isinstance(thing, tuple) or len(thing) != 4:
        return False
    if not are_rising_lines(ranks, thing[0]) or not are_rising_lines(ranks, thing[1]):
        return False
    return is_pile(ranks, thing[2]) and is_bar(thing[3])


def marks_of(ranks, lines):
    return [line in lines for line in range(len(ranks))]


def marked(marks):
    return [line for line, mark in enumerate(marks) if mark]


def top_of(pile):
    return pile[-1] if pile else None


class Board:
    # Each kind of board has three methods of its own, which are called from here: best();
    # line_comes(line), where a line asks and is not muted and this was not so before;
    # line_goes(line), where this is so no more.

    def __init__(self, ranks, picture=None):
        if not are_ranks(ranks):
            raise NoBoard("a board is made of a list of 1 to 60 ranks")
        start = ([], [], [], None) if picture is None else picture
        if not is_picture(ranks, start):
            raise NoPicture("this is no picture of a board with these ranks")
        self.ranks = list(ranks)
        self.asks = marks_of(ranks, start[0])
        self.muted = marks_of(ranks, start[1])
        self.pile = list(start[2])
        self.limit = start[3]

    def ring(self, line):
        return self.turn(self.asks, line, True)

    def calm(self, line):
        return self.turn(self.asks, line, False)

    def mute(self, line):
        return self.turn(self.muted, line, True)

    def free(self, line):
        return self.turn(self.muted, line, False)

    def bar(self, rank):
        if not is_bar(rank):
            raise NoBar("a bar is None or a whole number from 0 to 10 ** 60")
        old = self.limit
        self.limit = rank
        return old

    def take(self):
        line = self.best()
        if line is not None:
            self.calm(line)
            self.pile.append(line)
        return line

    def end(self, line):
        self.check_line(line)
        top = top_of(self.pile)
        if line != top:
            raise NotTop(line, top)
        self.pile.pop()
        return top_of(self.pile)

    def told(self):
        return (marked(self.asks), marked(self.muted), list(self.pile), self.limit)

    def check_line(self, line):
        if not is_line(self.ranks, line):
            raise NoLine("this is no line's number on this board")

    def turn(self, marks, line, wish):
        self.check_line(line)
        if marks[line] == wish:
            return False
        wanted = self.wants(line)
        marks[line] = wish
        if self.wants(line):
            self.line_comes(line)
        elif wanted:
            self.line_goes(line)
        return True

    def wants(self, line):
        return self.asks[line] and not self.muted[line]

    def wanting(self):
        return [line for line in range(len(self.ranks)) if self.wants(line)]

    def is_open(self, line):
        rank = self.ranks[line]
        if self.limit is not None and rank >= self.limit:
            return False
        return not self.pile or rank < self.ranks[top_of(self.pile)]
