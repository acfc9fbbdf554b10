"""What several tests use: boards of all kinds, wrong things, a second reading of the document, numbers for rows."""

from fewpegs.few import Few
from fewpegs.wide import Wide

GREATEST = 10 ** 60 - 1

COUNTS = tuple(range(1, 17))

# Things that are no whole number, whatever its bounds are.
NO_NUMBERS = (
    True, False, "", "0", "1", "ring", [], [0], [1, 2], (), (0,), ("ring", 0), {}, {0: 0}, {"line": 1},
    0.0, 1.0, float("nan"), float("inf"), 1j, b"", b"1", {0}, frozenset(), object(), int, len, ..., range(1),
)


def no_lines(many):
    numbers = (-1, -2, -many, many, many + 1, 60, 61, 10 ** 59, GREATEST, 10 ** 60, -GREATEST, 10 ** 3999)
    return numbers + (None,) + NO_NUMBERS


def boards(ranks, picture=None):
    return [Wide(ranks, picture)] + [Few(ranks, pegs, picture) for pegs in (1, 2, 3, 16)]


def pegs_state(board):
    if isinstance(board, Few):
        return (board.on_pegs(), board.waiting(), board.tallies())
    return None


def whole_state(board):
    return (board.told(), board.best(), pegs_state(board))


def numbers(seed):
    while True:
        seed = (seed * 6364136223846793005 + 1442695040888963407) % 2 ** 64
        yield seed >> 33


class WordsPegs:
    """Point 9 word by word: each line that is there is known to hang or to wait, in no order."""

    def __init__(self, ranks, many, lines):
        self.place = {line: (ranks[line], line) for line in range(len(ranks))}
        self.many = many
        self.hangs = {}
        self.counts = [len(lines), 0, 0]
        for line in lines:
            self.hangs[line] = False
        self.lay_first_waiting()

    def those(self, hanging):
        lines = [line for line, hangs in self.hangs.items() if hangs == hanging]
        lines.sort(key=self.place.get)
        return lines

    def lay_first_waiting(self):
        for line in self.those(False)[:self.many]:
            self.hangs[line] = True
            self.counts[1] += 1

    def come(self, line):
        hanging = self.those(True)
        ahead = any(self.place[line] < self.place[other] for other in hanging)
        room = len(hanging) < self.many
        laid = ahead or (room and not self.those(False))
        if laid and not room:
            self.hangs[hanging[-1]] = False
        self.hangs[line] = laid
        self.counts[0] += 1
        self.counts[1] += laid

    def go(self, line):
        del self.hangs[line]
        if self.those(False) and not self.those(True):
            self.counts[2] += 1
            self.lay_first_waiting()

    def state(self):
        hanging = self.those(True)
        return (hanging, self.those(False), hanging[0] if hanging else None, tuple(self.counts))


class WordsBoard:
    """Points 4 to 10 word by word, with a WordsPegs beside that is told of lines by comparing before with behind."""

    def __init__(self, ranks, many, picture=None):
        asking, muted, pile, bar = picture or ([], [], [], None)
        self.ranks = tuple(ranks)
        self.asking, self.muted, self.pile, self.bar = set(asking), set(muted), tuple(pile), bar
        self.pegs = WordsPegs(ranks, many, sorted(self.asking - self.muted))

    def best(self):
        fit = [(self.ranks[line], line) for line in self.asking - self.muted]
        if self.bar is not None:
            fit = [one for one in fit if one[0] < self.bar]
        if self.pile:
            fit = [one for one in fit if one[0] < self.ranks[self.pile[-1]]]
        return sorted(fit)[0][1] if fit else None

    def is_line(self, thing):
        return type(thing) is int and thing in range(len(self.ranks))

    def is_bar(self, thing):
        return thing is None or (type(thing) is int and 0 <= thing <= 10 ** 60)

    def do(self, deed):
        there = self.asking - self.muted
        told = self.do_without_pegs(*deed)
        for line in (self.asking - self.muted) - there:
            self.pegs.come(line)
        for line in there - (self.asking - self.muted):
            self.pegs.go(line)
        return told

    def do_without_pegs(self, name, thing=None):
        if name == "best":
            return self.best()
        if name == "take":
            return self.take()
        if name == "bar":
            return self.set_bar(thing)
        if not self.is_line(thing):
            return ("refused", "line")
        if name == "end":
            return self.end(thing)
        lines = self.asking if name in ("ring", "calm") else self.muted
        if (thing in lines) == (name in ("ring", "mute")):
            return False
        lines ^= {thing}
        return True

    def take(self):
        line = self.best()
        if line is not None:
            self.asking.remove(line)
            self.pile += (line,)
        return line

    def set_bar(self, bar):
        if not self.is_bar(bar):
            return ("refused", "bar")
        before, self.bar = self.bar, bar
        return before

    def end(self, line):
        if self.pile[-1:] != (line,):
            return ("refused", "top")
        self.pile = self.pile[:-1]
        return self.pile[-1] if self.pile else None

    def told(self):
        return (sorted(self.asking), sorted(self.muted), list(self.pile), self.bar)

    def pegs_state(self):
        on_pegs, waiting, _, tallies = self.pegs.state()
        return (on_pegs, waiting, tallies)
