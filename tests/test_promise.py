"""The promise over the whole program, point 11, over many rows of deeds; and point 9 word by word behind each deed."""

import copy
import itertools
import unittest

from fewpegs.errors import NoBar, NoLine, NotTop
from fewpegs.few import Few
from fewpegs.wide import Wide
from helpers import COUNTS, GREATEST, WordsBoard, numbers, pegs_state

SIGNS = {NoLine: "line", NoBar: "bar", NotTop: "top"}

LINE_DEEDS = ("ring", "calm", "mute", "free", "end")


def do(board, deed):
    try:
        return getattr(board, deed[0])(*deed[1:])
    except tuple(SIGNS) as error:
        return ("refused", SIGNS[type(error)])


class PromiseCase(unittest.TestCase):
    def check_alike(self, told, expected, where):
        self.assertEqual(told, expected, where)
        self.assertIs(type(told), type(expected), where)

    def check_pegs(self, ranks, pegs, few):
        on_pegs, waiting, (came, laid, calls) = pegs_state(few)
        order = [(ranks[line], line) for line in on_pegs + waiting]
        self.assertEqual(order, sorted(order))
        self.assertLessEqual(len(on_pegs), pegs)
        self.assertTrue(on_pegs or not waiting)
        asking, muted, _, _ = few.told()
        self.assertEqual(sorted(on_pegs + waiting), [line for line in asking if line not in muted])
        self.assertLessEqual(pegs * calls, laid)
        self.assertLessEqual(laid, 2 * came)

    def check_step(self, ranks, pegs, trio, deed):
        wide, few, words = trio
        expected = words.do(deed)
        where = (ranks, pegs, deed)
        self.check_alike(do(wide, deed), expected, where)
        self.check_alike(do(few, deed), expected, where)
        self.check_same(ranks, pegs, trio)

    def check_same(self, ranks, pegs, trio):
        wide, few, words = trio
        picture = words.told()
        self.assertEqual(wide.told(), picture)
        self.assertEqual(few.told(), picture)
        self.assertEqual(wide.best(), words.best())
        self.assertEqual(few.best(), words.best())
        self.assertEqual(pegs_state(few), words.pegs_state())
        self.check_pegs(ranks, pegs, few)


class AllSmallBoards(PromiseCase):
    """Every state that a small board can come to, and every deed in each of them."""

    def walk(self, ranks, pegs, bars):
        deeds = [("best",), ("take",)] + [("bar", bar) for bar in bars]
        deeds += list(itertools.product(LINE_DEEDS, range(len(ranks))))
        start = (Wide(ranks), Few(ranks, pegs), WordsBoard(ranks, pegs))
        seen = {self.key(start)}
        ahead = [start]
        while ahead:
            trio = ahead.pop()
            for deed in deeds:
                behind = copy.deepcopy(trio)
                self.check_step(ranks, pegs, behind, deed)
                if self.key(behind) not in seen:
                    seen.add(self.key(behind))
                    ahead.append(behind)
        return len(seen)

    def key(self, trio):
        return repr((trio[1].told(), trio[1].on_pegs()))

    def test_two_lines(self):
        for ranks in ([0, 1], [1, 0], [4, 4]):
            for pegs in (1, 2):
                # Four states of each line, and at least an empty pile and one with either line.
                self.assertGreaterEqual(self.walk(ranks, pegs, (None, 1)), 4 * 4 * 3 * 2)

    def test_three_lines(self):
        for ranks in ([2, 1, 0], [1, 0, 1]):
            self.assertGreaterEqual(self.walk(ranks, 2, (None,)), 4 * 4 * 4 * 4)


class LongRows(PromiseCase):
    def kinds_of_ranks(self, source, many):
        spread = [next(source) * next(source) * next(source) ** 4 % 10 ** 60 for _ in range(many)]
        return (
            [GREATEST] * many,
            list(range(many)),
            [GREATEST - number for number in range(many)],
            [next(source) % 5 for _ in range(many)],
            spread,
        )

    def deed(self, source, words):
        many = len(words.ranks)
        throw = next(source) % 100
        if throw < 18:
            return ("take",)
        if throw < 33:
            return ("end", words.pile[-1] if words.pile else next(source) % many)
        if throw < 36:
            return ("best",)
        if throw < 42:
            rank = words.ranks[next(source) % many]
            return ("bar", (None, None, rank, rank + 1, 0, 10 ** 60, -1, True, "bar", [])[next(source) % 10])
        name = ("ring", "ring", "ring", "ring", "calm", "mute", "free", "free", "end")[next(source) % 9]
        wrong = next(source) % 20 == 0
        line = (-1, many, True, None, [], {}, GREATEST)[next(source) % 7] if wrong else next(source) % many
        return (name, line)

    def follow(self, source, ranks, pegs, steps):
        trio = (Wide(ranks), Few(ranks, pegs), WordsBoard(ranks, pegs))
        for step in range(steps):
            self.check_step(ranks, pegs, trio, self.deed(source, trio[2]))
        return trio

    def test_each_count_of_pegs(self):
        source = numbers(5)
        for pegs in COUNTS:
            for many in (60, 20, 3, 1):
                for ranks in self.kinds_of_ranks(source, many):
                    kept = list(ranks)
                    self.follow(source, ranks, pegs, 80 if many < 60 else 160)
                    self.assertEqual(ranks, kept)

    def test_lines_that_come_and_go_in_waves(self):
        # Many ring, then most of them are served: so the book fills and the keeper is called.
        source = numbers(11)
        for pegs in COUNTS:
            for ranks in self.kinds_of_ranks(source, 60):
                trio = (Wide(ranks), Few(ranks, pegs), WordsBoard(ranks, pegs))
                for rings, serves in ((60, 45), (30, 50)):
                    for place in range(rings):
                        self.check_step(ranks, pegs, trio, ("ring", place * 7 % 60))
                    for _ in range(serves):
                        self.check_step(ranks, pegs, trio, ("take",))
                        if trio[2].pile:
                            self.check_step(ranks, pegs, trio, ("end", trio[2].pile[-1]))
                # Rows on which the keeper is never called would prove little.
                self.assertGreater(trio[1].tallies()[2], 1, (pegs, ranks))

    def test_a_board_made_midway_goes_on_alike(self):
        source = numbers(23)
        for pegs in COUNTS:
            for many in (60, 12):
                for ranks in self.kinds_of_ranks(source, many):
                    trio = self.follow(source, ranks, pegs, 60)
                    other = next(source) % 16 + 1
                    for old in trio[:2]:
                        picture = old.told()
                        made = (Wide(ranks, picture), Few(ranks, other, picture), WordsBoard(ranks, other, picture))
                        self.check_same(ranks, other, made)
                        self.go_on_beside(source, ranks, other, made, old)

    def go_on_beside(self, source, ranks, pegs, made, old):
        for _ in range(40):
            deed = self.deed(source, made[2])
            told = do(old, deed)
            self.check_alike(do(made[0], deed), told, (ranks, pegs, deed))
            self.check_alike(do(made[1], deed), told, (ranks, pegs, deed))
            self.check_alike(made[2].do(deed), told, (ranks, pegs, deed))
            self.check_same(ranks, pegs, made)
            self.assertEqual(old.told(), made[2].told())


if __name__ == "__main__":
    unittest.main()
