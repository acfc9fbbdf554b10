"""The few board, which looks at its pegs alone."""

from fewpegs.board import Board
from fewpegs.pegs import Pegs


class Few(Board):
    def __init__(self, ranks, pegs, picture=None):
        # The base refuses ranks and picture ahead of the pegs: this order is promised.
        Board.__init__(self, ranks, picture)
        self.rack = Pegs(self.ranks, pegs, self.wanting())

    def best(self):
        # No line that is behind the first one can be let in where the first one is not.
        line = self.rack.first()
        if line is not None and self.is_open(line):
            return line
        return None

    def on_pegs(self):
        return self.rack.on_pegs()

    def waiting(self):
        return self.rack.waiting()

    def tallies(self):
        return self.rack.tallies()

    def line_comes(self, line):
        self.rack.come(line)

    def line_goes(self, line):
        self.rack.go(line)
