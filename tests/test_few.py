"""The pegs, the book and the counts of a few board, behind each deed: points 1, 9 and 10."""

import unittest

from fewpegs.errors import BoardError
from fewpegs.few import Few
from helpers import COUNTS, GREATEST, pegs_state

# Rank by number, so that the order of lines can be read off the numbers.
RISING = list(range(10))


class FewCase(unittest.TestCase):
    def check(self, few, on_pegs, waiting, tallies):
        self.assertEqual(pegs_state(few), (on_pegs, waiting, tallies))
        self.assertIs(type(few.on_pegs()), list)
        self.assertIs(type(few.waiting()), list)
        self.assertIs(type(few.tallies()), tuple)
        self.assertEqual([type(count) for count in few.tallies()], [int, int, int])


class Making(FewCase):
    def test_new(self):
        for pegs in COUNTS:
            self.check(Few(RISING, pegs), [], [], (0, 0, 0))

    def test_lines_that_ask_and_are_not_muted(self):
        few = Few(RISING, 2, ([1, 3, 4, 6, 8], [0, 3, 9], [], None))
        self.check(few, [1, 4], [6, 8], (4, 2, 0))

    def test_fewer_lines_than_pegs(self):
        self.check(Few(RISING, 3, ([5, 7], [], [], None)), [5, 7], [], (2, 2, 0))

    def test_as_many_lines_as_pegs(self):
        self.check(Few(RISING, 3, ([2, 5, 7], [], [], None)), [2, 5, 7], [], (3, 3, 0))

    def test_only_muted_lines_ask(self):
        self.check(Few(RISING, 3, ([2, 5], [2, 5, 7], [], None)), [], [], (0, 0, 0))

    def test_by_rank_and_then_by_number(self):
        few = Few([9, 2, GREATEST, 2, 0], 2, ([0, 1, 2, 3, 4], [4], [], None))
        self.check(few, [1, 3], [0, 2], (4, 2, 0))

    def test_whatever_the_bar_and_the_pile_are(self):
        few = Few(RISING, 1, ([4, 5], [], [9, 4, 2], 0))
        self.check(few, [4], [5], (2, 1, 0))
        self.assertIsNone(few.best())

    def test_sixty_lines(self):
        lines = list(range(60))
        for pegs in COUNTS:
            few = Few([7] * 60, pegs, (lines, [], [], None))
            self.check(few, lines[:pegs], lines[pegs:], (60, pegs, 0))


class Coming(FewCase):
    def test_by_ring(self):
        few = Few(RISING, 2)
        few.ring(5)
        self.check(few, [5], [], (1, 1, 0))
        few.ring(7)
        self.check(few, [5, 7], [], (2, 2, 0))
        few.ring(9)
        self.check(few, [5, 7], [9], (3, 2, 0))
        few.ring(6)
        self.check(few, [5, 6], [7, 9], (4, 3, 0))
        few.ring(1)
        self.check(few, [1, 5], [6, 7, 9], (5, 4, 0))
        few.ring(8)
        self.check(few, [1, 5], [6, 7, 8, 9], (6, 4, 0))

    def test_by_free(self):
        few = Few(RISING, 2, ([1, 5, 6, 7, 9], [1, 5, 6, 7, 9], [], None))
        few.free(5)
        self.check(few, [5], [], (1, 1, 0))
        few.free(9)
        self.check(few, [5, 9], [], (2, 2, 0))
        few.free(6)
        self.check(few, [5, 6], [9], (3, 3, 0))
        few.free(7)
        self.check(few, [5, 6], [7, 9], (4, 3, 0))
        few.free(1)
        self.check(few, [1, 5], [6, 7, 9], (5, 4, 0))

    def test_an_empty_peg_while_lines_wait(self):
        few = Few(RISING, 3, ([1, 3, 5, 7], [], [], None))
        few.calm(3)
        self.check(few, [1, 5], [7], (4, 3, 0))
        few.ring(6)
        self.check(few, [1, 5], [6, 7], (5, 3, 0))
        few.ring(4)
        self.check(few, [1, 4, 5], [6, 7], (6, 4, 0))

    def test_like_ranks_by_number(self):
        few = Few([7] * 5, 1)
        few.ring(3)
        few.ring(4)
        self.check(few, [3], [4], (2, 1, 0))
        few.ring(0)
        self.check(few, [0], [3, 4], (3, 2, 0))

    def test_a_served_line_comes_again(self):
        few = Few(RISING, 2, ([4], [], [], None))
        few.take()
        self.check(few, [], [], (1, 1, 0))
        few.ring(4)
        self.check(few, [4], [], (2, 2, 0))


class Going(FewCase):
    def test_by_calm(self):
        few = Few(RISING, 2, ([1, 3, 5, 7, 9], [], [], None))
        few.calm(1)
        self.check(few, [3], [5, 7, 9], (5, 2, 0))
        few.calm(7)
        self.check(few, [3], [5, 9], (5, 2, 0))
        few.calm(3)
        self.check(few, [5, 9], [], (5, 4, 1))
        few.calm(9)
        few.calm(5)
        self.check(few, [], [], (5, 4, 1))

    def test_by_mute(self):
        few = Few(RISING, 2, ([1, 3, 5, 7, 9], [], [], None))
        few.mute(3)
        self.check(few, [1], [5, 7, 9], (5, 2, 0))
        few.mute(5)
        self.check(few, [1], [7, 9], (5, 2, 0))
        few.mute(1)
        self.check(few, [7, 9], [], (5, 4, 1))

    def test_by_take(self):
        few = Few(RISING, 2, ([1, 3, 5, 7, 9], [], [], None))
        self.assertEqual(few.take(), 1)
        self.check(few, [3], [5, 7, 9], (5, 2, 0))
        few.end(1)
        self.assertEqual(few.take(), 3)
        self.check(few, [5, 7], [9], (5, 4, 1))
        few.end(3)
        few.take()
        few.end(5)
        few.take()
        self.check(few, [9], [], (5, 5, 2))
        few.end(7)
        self.assertEqual(few.take(), 9)
        self.check(few, [], [], (5, 5, 2))

    def test_a_line_that_is_muted_and_freed_comes_anew(self):
        few = Few(RISING, 1, ([1, 3], [], [], None))
        few.mute(1)
        self.check(few, [3], [], (2, 2, 1))
        few.free(1)
        self.check(few, [1], [3], (3, 3, 1))

    def test_sixty_lines_taken_one_by_one(self):
        lines = list(range(60))
        few = Few([GREATEST] * 60, 16, (lines, [], [], None))
        for line in lines:
            self.assertEqual(few.take(), line)
            self.assertIsNone(few.end(line))
        self.check(few, [], [], (60, 60, 3))


class NothingThere(FewCase):
    def check_stays(self, few, *deed):
        kept = pegs_state(few)
        told = getattr(few, deed[0])(*deed[1:])
        self.check(few, *kept)
        return told

    def test_deeds_of_a_muted_line(self):
        few = Few(RISING, 2, ([1, 3, 5], [0, 3], [], None))
        self.check(few, [1, 5], [], (2, 2, 0))
        self.assertIs(self.check_stays(few, "ring", 0), True)
        self.assertIs(self.check_stays(few, "ring", 0), False)
        self.assertIs(self.check_stays(few, "calm", 3), True)
        self.assertIs(self.check_stays(few, "mute", 3), False)
        self.assertIs(self.check_stays(few, "calm", 0), True)

    def test_deeds_of_a_line_that_does_not_ask(self):
        few = Few(RISING, 2, ([1, 3, 5], [], [], None))
        self.assertIs(self.check_stays(few, "mute", 0), True)
        self.assertIs(self.check_stays(few, "free", 0), True)
        self.assertIs(self.check_stays(few, "free", 0), False)
        self.assertIs(self.check_stays(few, "calm", 0), False)

    def test_deeds_that_are_done_already(self):
        few = Few(RISING, 2, ([1, 3, 5], [], [], None))
        for line in (1, 3, 5):
            self.assertIs(self.check_stays(few, "ring", line), False)
            self.assertIs(self.check_stays(few, "free", line), False)

    def test_bar_best_end_told_and_a_take_of_none(self):
        few = Few(RISING, 2, ([4, 5, 6], [], [8, 4], None))
        self.assertIsNone(self.check_stays(few, "take"))
        self.assertIsNone(self.check_stays(few, "best"))
        self.assertEqual(self.check_stays(few, "end", 4), 8)
        self.assertEqual(self.check_stays(few, "best"), 4)
        self.assertIsNone(self.check_stays(few, "bar", 4))
        self.assertIsNone(self.check_stays(few, "take"))
        self.assertEqual(self.check_stays(few, "bar", None), 4)
        self.check_stays(few, "told")

    def test_deeds_that_are_refused(self):
        few = Few(RISING, 2, ([4, 5, 6], [], [8], None))
        for deed in (("ring", 10), ("calm", -1), ("mute", True), ("free", None), ("end", 4), ("end", 99), ("bar", -1)):
            with self.assertRaises(BoardError):
                self.check_stays(few, *deed)
            self.check(few, [4, 5], [6], (3, 2, 0))


class Told(FewCase):
    def test_lists_are_new_each_time(self):
        few = Few(RISING, 2, ([4, 5, 6], [], [], None))
        self.assertIsNot(few.on_pegs(), few.on_pegs())
        self.assertIsNot(few.waiting(), few.waiting())

    def test_changed_by_the_asker_they_change_nothing(self):
        for lines in ([], [4], [4, 5, 6, 7]):
            few = Few(RISING, 2, (lines, [], [], None))
            kept = pegs_state(few)
            for told in (few.on_pegs(), few.waiting()):
                told.append(0)
                told.reverse()
                self.check(few, *kept)
                told.clear()
                self.check(few, *kept)
            self.assertEqual(few.best(), lines[0] if lines else None)

    def test_they_stay_when_the_board_goes_on(self):
        few = Few(RISING, 2, ([4, 5, 6, 7], [], [], None))
        kept = pegs_state(few)
        few.ring(1)
        few.mute(6)
        few.take()
        few.calm(4)
        self.assertEqual(kept, ([4, 5], [6, 7], (4, 2, 0)))
        self.assertNotEqual(pegs_state(few), kept)


if __name__ == "__main__":
    unittest.main()
