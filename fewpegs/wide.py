"""The wide board, which looks at all its lines whenever it is asked."""

from fewpegs.board import Board
from fewpegs.ranks import first_of


class Wide(Board):
    def best(self):
        return first_of(self.ranks, [line for line in self.wanting() if self.is_open(line)])

    # All lines are looked at anew each time, so nothing is kept of those that come and go.

    def line_comes(self, line):
        pass

    def line_goes(self, line):
        pass
