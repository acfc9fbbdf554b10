"""Pegs and the book: points 9 and 10, the counts of point 8, and point 1 as far as it speaks of pegs."""

import itertools
import unittest

from fewpegs.errors import BoardError, NoPegs
from fewpegs.pegs import Pegs
from helpers import GREATEST, WordsPegs

# Rank by number, so that the order of lines can be read off the numbers.
RISING = list(range(60))


def state(pegs):
    return (pegs.on_pegs(), pegs.waiting(), pegs.first(), pegs.tallies())


class PegsCase(unittest.TestCase):
    def check(self, pegs, on_pegs, waiting, tallies):
        first = on_pegs[0] if on_pegs else None
        self.assertEqual(state(pegs), (on_pegs, waiting, first, tallies))
        self.assertIs(type(pegs.on_pegs()), list)
        self.assertIs(type(pegs.waiting()), list)
        self.assertIs(type(pegs.tallies()), tuple)


class Making(PegsCase):
    def test_no_line(self):
        self.check(Pegs(RISING, 3, []), [], [], (0, 0, 0))
        self.assertIsNone(Pegs(RISING, 1, []).first())

    def test_fewer_lines_than_pegs(self):
        self.check(Pegs(RISING, 3, [5, 2]), [2, 5], [], (2, 2, 0))

    def test_as_many_lines_as_pegs(self):
        self.check(Pegs(RISING, 3, [5, 2, 8]), [2, 5, 8], [], (3, 3, 0))

    def test_more_lines_than_pegs(self):
        self.check(Pegs(RISING, 3, [5, 2, 8, 0, 9]), [0, 2, 5], [8, 9], (5, 3, 0))

    def test_one_peg(self):
        self.check(Pegs(RISING, 1, [4, 1, 7]), [1], [4, 7], (3, 1, 0))

    def test_lines_in_any_order(self):
        ranks = [2, 1, 2, 0, 1]
        for lines in itertools.permutations(range(5)):
            self.check(Pegs(ranks, 2, list(lines)), [3, 1], [4, 0, 2], (5, 2, 0))

    def test_like_ranks_by_number(self):
        self.check(Pegs([7] * 5, 2, [4, 3, 2, 1, 0]), [0, 1], [2, 3, 4], (5, 2, 0))

    def test_sixty_lines_of_the_greatest_rank_on_sixteen_pegs(self):
        pegs = Pegs([GREATEST] * 60, 16, list(range(59, -1, -1)))
        self.check(pegs, list(range(16)), list(range(16, 60)), (60, 16, 0))

    def test_sixty_lines_on_one_peg(self):
        ranks = [GREATEST - number for number in range(60)]
        pegs = Pegs(ranks, 1, list(range(60)))
        self.check(pegs, [59], list(range(58, -1, -1)), (60, 1, 0))


class Counts(PegsCase):
    def test_counts_that_are_refused(self):
        counts = (
            0, 17, 18, -1, -16, GREATEST, -GREATEST, 10 ** 60, 10 ** 80, True, False, None,
            "", "1", "sixteen", [], [1], (), (1,), {}, {1: 1}, 1.0, 16.0, b"1", {1}, object(), int,
        )
        for many in counts:
            with self.subTest(many=many):
                with self.assertRaises(NoPegs) as taken:
                    Pegs(RISING, many, [3, 1])
                self.assertIsInstance(taken.exception, BoardError)
                with self.assertRaises(NoPegs):
                    Pegs([0], many, [])

    def test_counts_that_are_not_refused(self):
        for many in range(1, 17):
            pegs = Pegs(RISING, many, list(range(20)))
            self.check(pegs, list(range(many)), list(range(many, 20)), (20, many, 0))

    def test_a_refusal_leaves_what_was_handed_in(self):
        ranks, lines, many = [3, 1, 2], [0, 2, 1], [1]
        with self.assertRaises(NoPegs):
            Pegs(ranks, many, lines)
        self.assertEqual((ranks, many, lines), ([3, 1, 2], [1], [0, 2, 1]))


class Coming(PegsCase):
    def test_onto_an_empty_peg(self):
        pegs = Pegs(RISING, 2, [])
        self.assertIsNone(pegs.come(5))
        self.check(pegs, [5], [], (1, 1, 0))
        self.assertIsNone(pegs.come(7))
        self.check(pegs, [5, 7], [], (2, 2, 0))

    def test_onto_an_empty_peg_ahead(self):
        pegs = Pegs(RISING, 3, [5, 7])
        pegs.come(2)
        self.check(pegs, [2, 5, 7], [], (3, 3, 0))

    def test_onto_an_empty_peg_between(self):
        pegs = Pegs(RISING, 3, [5, 7])
        pegs.come(6)
        self.check(pegs, [5, 6, 7], [], (3, 3, 0))

    def test_ahead_of_all_with_all_pegs_full(self):
        pegs = Pegs(RISING, 2, [5, 7])
        self.assertIsNone(pegs.come(3))
        self.check(pegs, [3, 5], [7], (3, 3, 0))

    def test_ahead_of_the_last_with_all_pegs_full(self):
        pegs = Pegs(RISING, 2, [5, 7, 9])
        self.assertIsNone(pegs.come(6))
        self.check(pegs, [5, 6], [7, 9], (4, 3, 0))

    def test_ahead_of_the_one_line_on_one_peg(self):
        pegs = Pegs(RISING, 1, [5])
        pegs.come(4)
        pegs.come(3)
        self.check(pegs, [3], [4, 5], (3, 3, 0))

    def test_behind_all_with_all_pegs_full(self):
        pegs = Pegs(RISING, 2, [5, 7])
        self.assertIsNone(pegs.come(9))
        self.check(pegs, [5, 7], [9], (3, 2, 0))
        self.assertIsNone(pegs.come(8))
        self.check(pegs, [5, 7], [8, 9], (4, 2, 0))

    def test_an_empty_peg_while_lines_wait_ahead_of_the_last(self):
        pegs = Pegs(RISING, 3, [1, 3, 5, 7])
        pegs.go(3)
        self.assertIsNone(pegs.come(4))
        self.check(pegs, [1, 4, 5], [7], (5, 4, 0))

    def test_an_empty_peg_while_lines_wait_behind_the_last(self):
        pegs = Pegs(RISING, 3, [1, 3, 5, 7])
        pegs.go(3)
        self.assertIsNone(pegs.come(6))
        self.check(pegs, [1, 5], [6, 7], (5, 3, 0))

    def test_an_empty_peg_while_lines_wait_behind_all_of_them(self):
        pegs = Pegs(RISING, 3, [1, 3, 5, 7])
        pegs.go(5)
        pegs.come(9)
        self.check(pegs, [1, 3], [7, 9], (5, 3, 0))

    def test_an_empty_peg_and_the_book_emptied(self):
        pegs = Pegs(RISING, 2, [1, 3, 5])
        pegs.go(3)
        pegs.go(5)
        pegs.come(9)
        self.check(pegs, [1, 9], [], (4, 3, 0))

    def test_like_ranks_by_number(self):
        pegs = Pegs([7] * 6, 2, [2, 4])
        pegs.come(5)
        self.check(pegs, [2, 4], [5], (3, 2, 0))
        pegs.come(3)
        self.check(pegs, [2, 3], [4, 5], (4, 3, 0))
        pegs.come(0)
        self.check(pegs, [0, 2], [3, 4, 5], (5, 4, 0))

    def test_by_rank_and_not_by_number(self):
        pegs = Pegs([GREATEST, 9, 5, 0], 1, [1])
        pegs.come(0)
        self.check(pegs, [1], [0], (2, 1, 0))
        pegs.come(3)
        self.check(pegs, [3], [1, 0], (3, 2, 0))
        pegs.come(2)
        self.check(pegs, [3], [2, 1, 0], (4, 2, 0))

    def test_a_line_that_went_comes_again(self):
        pegs = Pegs(RISING, 2, [1])
        pegs.go(1)
        pegs.come(1)
        self.check(pegs, [1], [], (2, 2, 0))

    def test_no_keeper_is_called_by_one_that_comes(self):
        pegs = Pegs(RISING, 2, [])
        for line in (9, 8, 7, 6, 5):
            pegs.come(line)
        self.check(pegs, [5, 6], [7, 8, 9], (5, 5, 0))


class Going(PegsCase):
    def test_from_a_peg(self):
        pegs = Pegs(RISING, 3, [1, 3, 5])
        self.assertIsNone(pegs.go(3))
        self.check(pegs, [1, 5], [], (3, 3, 0))

    def test_from_a_peg_while_lines_wait(self):
        pegs = Pegs(RISING, 3, [1, 3, 5, 7])
        self.assertIsNone(pegs.go(1))
        self.check(pegs, [3, 5], [7], (4, 3, 0))

    def test_out_of_the_book(self):
        pegs = Pegs(RISING, 2, [1, 3, 5, 7, 9])
        self.assertIsNone(pegs.go(7))
        self.check(pegs, [1, 3], [5, 9], (5, 2, 0))
        self.assertIsNone(pegs.go(5))
        self.assertIsNone(pegs.go(9))
        self.check(pegs, [1, 3], [], (5, 2, 0))

    def test_the_last_one_of_all(self):
        pegs = Pegs(RISING, 2, [4])
        self.assertIsNone(pegs.go(4))
        self.check(pegs, [], [], (1, 1, 0))

    def test_the_last_on_a_peg_while_more_wait_than_there_are_pegs(self):
        pegs = Pegs(RISING, 2, [1, 3, 5, 7, 9])
        pegs.go(1)
        self.check(pegs, [3], [5, 7, 9], (5, 2, 0))
        self.assertIsNone(pegs.go(3))
        self.check(pegs, [5, 7], [9], (5, 4, 1))

    def test_the_last_on_a_peg_while_as_many_wait_as_there_are_pegs(self):
        pegs = Pegs(RISING, 2, [1, 3, 5, 7])
        pegs.go(3)
        self.assertIsNone(pegs.go(1))
        self.check(pegs, [5, 7], [], (4, 4, 1))

    def test_the_last_on_a_peg_while_fewer_wait_than_there_are_pegs(self):
        pegs = Pegs(RISING, 2, [1, 3, 5])
        pegs.go(1)
        self.assertIsNone(pegs.go(3))
        self.check(pegs, [5], [], (3, 3, 1))

    def test_the_keeper_is_called_each_time(self):
        pegs = Pegs(RISING, 1, [1, 3, 5])
        pegs.go(1)
        self.check(pegs, [3], [5], (3, 2, 1))
        pegs.go(3)
        self.check(pegs, [5], [], (3, 3, 2))
        pegs.go(5)
        self.check(pegs, [], [], (3, 3, 2))

    def test_the_keeper_lays_the_first_ones_that_wait(self):
        ranks = [5, 0, 2, 2, 9, 1]
        pegs = Pegs(ranks, 2, [1])
        for line in (5, 4, 3, 0, 2):
            pegs.come(line)
        self.check(pegs, [1, 5], [2, 3, 0, 4], (6, 2, 0))
        pegs.go(1)
        pegs.go(5)
        self.check(pegs, [2, 3], [0, 4], (6, 4, 1))

    def test_the_keeper_lays_one_that_was_taken_off(self):
        pegs = Pegs(RISING, 1, [5])
        pegs.come(2)
        self.check(pegs, [2], [5], (2, 2, 0))
        pegs.go(2)
        self.check(pegs, [5], [], (2, 3, 1))

    def test_a_line_that_was_taken_off_goes_out_of_the_book(self):
        pegs = Pegs(RISING, 2, [5, 7, 9])
        pegs.come(1)
        pegs.go(7)
        self.check(pegs, [1, 5], [9], (4, 3, 0))

    def test_sixty_lines_go_one_by_one(self):
        pegs = Pegs([GREATEST] * 60, 16, list(range(60)))
        for line in range(59):
            self.assertEqual(pegs.first(), line)
            pegs.go(line)
        self.check(pegs, [59], [], (60, 60, 3))


class HandedIn(PegsCase):
    def test_lists_stay_as_they_are(self):
        ranks, lines = [9, 4, 7, 4, 1, 0], [2, 0, 3, 1]
        pegs = Pegs(ranks, 2, lines)
        for line in (5, 4):
            pegs.come(line)
        for line in (5, 4, 0, 1):
            pegs.go(line)
        state(pegs)
        self.assertEqual(ranks, [9, 4, 7, 4, 1, 0])
        self.assertEqual(lines, [2, 0, 3, 1])

    def test_ranks_changed_behind_the_call_change_nothing(self):
        ranks = [4, 3, 2, 1, 0]
        pegs = Pegs(ranks, 2, [0, 2, 4])
        ranks.reverse()
        self.check(pegs, [4, 2], [0], (3, 2, 0))
        pegs.come(3)
        self.check(pegs, [4, 3], [2, 0], (4, 3, 0))
        ranks.clear()
        pegs.come(1)
        self.check(pegs, [4, 3], [2, 1, 0], (5, 3, 0))
        pegs.go(3)
        pegs.go(4)
        self.check(pegs, [2, 1], [0], (5, 5, 1))

    def test_lines_changed_behind_the_call_change_nothing(self):
        for many in (1, 2, 3, 16):
            lines = [0, 1, 2]
            pegs = Pegs(RISING, many, lines)
            kept = state(pegs)
            lines.append(9)
            lines[0] = 7
            self.assertEqual(state(pegs), kept)
            lines.clear()
            self.assertEqual(state(pegs), kept)

    def test_no_lines_changed_behind_the_call(self):
        lines = []
        pegs = Pegs(RISING, 2, lines)
        pegs.come(3)
        self.assertEqual(lines, [])
        lines.append(5)
        self.check(pegs, [3], [], (1, 1, 0))

    def test_two_made_of_the_same_lists_are_apart(self):
        ranks, lines = [3, 2, 1, 0], [0, 1, 2]
        one, other = Pegs(ranks, 2, lines), Pegs(ranks, 2, lines)
        one.come(3)
        one.go(0)
        self.check(other, [2, 1], [0], (3, 2, 0))


class Told(PegsCase):
    def test_lists_told_are_new_each_time(self):
        pegs = Pegs(RISING, 2, [1, 3, 5])
        self.assertIsNot(pegs.on_pegs(), pegs.on_pegs())
        self.assertIsNot(pegs.waiting(), pegs.waiting())

    def test_lists_told_and_changed_change_nothing(self):
        for lines in ([], [1], [1, 3], [1, 3, 5, 7]):
            pegs = Pegs(RISING, 2, lines)
            kept = state(pegs)
            for told in (pegs.on_pegs(), pegs.waiting()):
                told.append(0)
                told.reverse()
                self.assertEqual(state(pegs), kept)
                told.clear()
                self.assertEqual(state(pegs), kept)

    def test_later_deeds_do_not_change_what_was_told(self):
        pegs = Pegs(RISING, 2, [1, 3, 5, 7])
        on_pegs, waiting, first, tallies = state(pegs)
        pegs.come(2)
        pegs.come(9)
        pegs.go(1)
        pegs.go(2)
        pegs.go(7)
        self.assertEqual((on_pegs, waiting), ([1, 3], [5, 7]))
        self.assertEqual((first, tallies), (1, (4, 2, 0)))

    def test_asking_changes_nothing(self):
        pegs = Pegs(RISING, 2, [1, 3, 5])
        pegs.go(3)
        kept = state(pegs)
        self.assertEqual(state(pegs), kept)
        self.assertEqual(kept, ([1], [5], 1, (3, 2, 0)))


class AgainstTheWords(PegsCase):
    def follow(self, ranks, many, lines, row):
        pegs, words = Pegs(ranks, many, lines), WordsPegs(ranks, many, lines)
        self.assertEqual(state(pegs), words.state())
        for line in row:
            deed = "go" if line in words.hangs else "come"
            self.assertIsNone(getattr(pegs, deed)(line))
            getattr(words, deed)(line)
            self.assertEqual(state(pegs), words.state(), (ranks, many, lines, row))
            self.check_order(ranks, many, pegs)

    def check_order(self, ranks, many, pegs):
        on_pegs, waiting = pegs.on_pegs(), pegs.waiting()
        self.assertLessEqual(len(on_pegs), many)
        if waiting:
            self.assertTrue(on_pegs)
            last, ahead = on_pegs[-1], waiting[0]
            self.assertLess((ranks[last], last), (ranks[ahead], ahead))
        came, laid, calls = pegs.tallies()
        self.assertLessEqual(many * calls, laid)
        self.assertLessEqual(laid, 2 * came)

    def test_all_short_rows(self):
        for ranks in ([0, 1, 2, 3], [1, 0, 1, 0]):
            for many in (1, 2, 3):
                for lines in ([], [3, 1], [2, 0, 3, 1]):
                    for row in itertools.product(range(4), repeat=5):
                        self.follow(ranks, many, lines, row)

    def test_long_rows(self):
        seed = 1
        for many in range(1, 17):
            row = []
            for step in range(400):
                seed = (seed * 1103515245 + 12345) % 2 ** 31
                row.append((seed >> 12) % 60)
            ranks = [(number * 37 + many) % (many + 7) * 10 ** 58 for number in range(60)]
            self.follow(ranks, many, list(range(0, 60, 3)), row)


if __name__ == "__main__":
    unittest.main()
