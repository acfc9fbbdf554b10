"""A few pegs that are looked at, and the book in which the other lines wait."""

from fewpegs.errors import NoPegs
from fewpegs.ranks import before, in_order, is_whole

MOST_PEGS = 16


def is_count_of_pegs(thing):
    return is_whole(thing) and 1 <= thing <= MOST_PEGS


class Pegs:
    # Which peg a line hangs on is never told, so the pegs are the list of the lines on them.
    # This list and the book are both kept in order: the first line is found without a search.

    def __init__(self, ranks, many, lines):
        if not is_count_of_pegs(many):
            raise NoPegs("a count of pegs is a whole number from 1 to 16")
        self.ranks = list(ranks)
        self.many = many
        self.hung = []
        self.book = in_order(self.ranks, lines)
        self.came = len(self.book)
        self.laid = 0
        self.calls = 0
        self.lay_from_book()

    def come(self, line):
        self.came += 1
        if self.belongs_on_peg(line):
            self.lay(line)
        else:
            self.book = in_order(self.ranks, self.book + [line])

    def go(self, line):
        if line in self.hung:
            self.hung.remove(line)
        else:
            self.book.remove(line)
        if self.book and not self.hung:
            self.calls += 1
            self.lay_from_book()

    def on_pegs(self):
        return list(self.hung)

    def waiting(self):
        return list(self.book)

    def first(self):
        return self.hung[0] if self.hung else None

    def tallies(self):
        return (self.came, self.laid, self.calls)

    def belongs_on_peg(self, line):
        # A line that comes before some line on a peg comes before the last one of them.
        if self.hung and before(self.ranks, line, self.hung[-1]):
            return True
        return not self.book and len(self.hung) < self.many

    def lay(self, line):
        if len(self.hung) == self.many:
            # What was on a peg comes before all that wait, so it goes to the book's head.
            self.book.insert(0, self.hung.pop())
        self.hung = in_order(self.ranks, self.hung + [line])
        self.laid += 1

    def lay_from_book(self):
        self.hung = self.book[:self.many]
        self.book = self.book[self.many:]
        self.laid += len(self.hung)
