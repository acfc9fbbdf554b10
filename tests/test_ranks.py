"""Whole numbers and the order of lines: point 2, and point 1 as far as it speaks of ranks."""

import itertools
import unittest

from fewpegs.ranks import before, first_of, in_order, is_whole

GREATEST = 10 ** 60 - 1


class IsWhole(unittest.TestCase):
    def test_ints_are(self):
        for thing in (0, 1, -1, 59, 60, -10 ** 60, GREATEST, 10 ** 60, 10 ** 61 + 7, -(10 ** 90), 10 ** 3999):
            self.assertIs(is_whole(thing), True)

    def test_truths_are_not(self):
        self.assertIs(is_whole(True), False)
        self.assertIs(is_whole(False), False)

    def test_things_of_other_kinds_are_not(self):
        things = (
            None, "", "1", "one", [], [1], (), (1,), {}, {1: 1}, set(), {1}, frozenset(), b"", b"1",
            1.0, 0.0, float("nan"), 1j, object(), int, bool, len, ..., range(1), NotImplemented,
        )
        for thing in things:
            with self.subTest(thing=thing):
                self.assertIs(is_whole(thing), False)


class Before(unittest.TestCase):
    def test_the_lesser_rank_comes_first(self):
        ranks = [5, 3]
        self.assertIs(before(ranks, 1, 0), True)
        self.assertIs(before(ranks, 0, 1), False)

    def test_the_lesser_rank_comes_first_whatever_the_numbers(self):
        ranks = [3, 5]
        self.assertIs(before(ranks, 0, 1), True)
        self.assertIs(before(ranks, 1, 0), False)

    def test_of_like_ranks_the_lesser_number_comes_first(self):
        for rank in (0, 4, GREATEST):
            ranks = [rank] * 60
            self.assertIs(before(ranks, 0, 59), True)
            self.assertIs(before(ranks, 59, 0), False)
            self.assertIs(before(ranks, 9, 10), True)
            self.assertIs(before(ranks, 10, 9), False)

    def test_a_line_does_not_come_before_itself(self):
        for ranks in ([0], [GREATEST], [4, 4], [4, 5, 3]):
            for line in range(len(ranks)):
                self.assertIs(before(ranks, line, line), False)

    def test_the_edges_of_ranks(self):
        ranks = [GREATEST, GREATEST - 1, 0, 1]
        self.assertIs(before(ranks, 1, 0), True)
        self.assertIs(before(ranks, 0, 1), False)
        self.assertIs(before(ranks, 2, 3), True)
        self.assertIs(before(ranks, 3, 2), False)
        self.assertIs(before(ranks, 2, 0), True)

    def test_ranks_are_numbers_and_not_texts(self):
        self.assertIs(before([10, 9], 1, 0), True)
        self.assertIs(before([10, 9], 0, 1), False)

    def test_just_one_of_two_lines_comes_first(self):
        ranks = [3, 1, 3, 0, GREATEST, 1, 0]
        for one, other in itertools.combinations(range(7), 2):
            self.assertIsNot(before(ranks, one, other), before(ranks, other, one))

    def test_ranks_stay_as_they_were(self):
        ranks = [5, 3, 5]
        before(ranks, 0, 2)
        before(ranks, 2, 1)
        self.assertEqual(ranks, [5, 3, 5])


class InOrder(unittest.TestCase):
    def test_by_rank(self):
        self.assertEqual(in_order([5, 3, 9, 0], [0, 1, 2, 3]), [3, 1, 0, 2])

    def test_like_ranks_by_number(self):
        self.assertEqual(in_order([4, 4, 4, 4], [2, 0, 3, 1]), [0, 1, 2, 3])
        self.assertEqual(in_order([4, 1, 4, 1], [3, 2, 1, 0]), [1, 3, 0, 2])

    def test_only_the_lines_told(self):
        self.assertEqual(in_order([5, 3, 9, 0], [2, 1]), [1, 2])

    def test_one_line_and_no_line(self):
        self.assertEqual(in_order([7], [0]), [0])
        self.assertEqual(in_order([7, 8], [1]), [1])
        self.assertEqual(in_order([7], []), [])

    def test_the_edges_of_ranks(self):
        ranks = [GREATEST, GREATEST - 1, GREATEST, 0]
        self.assertEqual(in_order(ranks, [2, 0, 1, 3]), [3, 1, 0, 2])

    def test_sixty_lines(self):
        falling = [GREATEST - number for number in range(60)]
        self.assertEqual(in_order(falling, list(range(60))), list(range(59, -1, -1)))
        alike = [GREATEST] * 60
        self.assertEqual(in_order(alike, list(range(59, -1, -1))), list(range(60)))
        halves = [1, 0] * 30
        self.assertEqual(in_order(halves, list(range(60))), list(range(1, 60, 2)) + list(range(0, 60, 2)))

    def test_whatever_order_they_are_handed_in(self):
        ranks = [2, 1, 2, 0, 1]
        for lines in itertools.permutations(range(5)):
            self.assertEqual(in_order(ranks, list(lines)), [3, 1, 4, 0, 2])

    def test_what_is_handed_in_stays(self):
        ranks, lines = [5, 3, 9, 0], [0, 2, 1, 3]
        in_order(ranks, lines)
        self.assertEqual(ranks, [5, 3, 9, 0])
        self.assertEqual(lines, [0, 2, 1, 3])

    def test_the_list_told_is_a_new_one(self):
        for ranks, lines in (([5, 3], [1, 0]), ([5, 3], [0]), ([5, 3], [])):
            kept_ranks, kept_lines = list(ranks), list(lines)
            told = in_order(ranks, lines)
            again = in_order(ranks, lines)
            expected = list(again)
            self.assertIs(type(told), list)
            self.assertIsNot(told, lines)
            self.assertIsNot(told, again)
            told.append(59)
            told.reverse()
            self.assertEqual((ranks, lines, again), (kept_ranks, kept_lines, expected))
            self.assertEqual(in_order(ranks, lines), expected)

    def test_what_was_told_does_not_follow_what_was_handed_in(self):
        ranks, lines = [5, 3, 4], [0, 1, 2]
        told = in_order(ranks, lines)
        ranks[1] = 99
        lines.pop()
        self.assertEqual(told, [1, 2, 0])


class FirstOf(unittest.TestCase):
    def test_by_rank(self):
        self.assertEqual(first_of([5, 3, 9, 0], [0, 1, 2, 3]), 3)
        self.assertEqual(first_of([5, 3, 9, 0], [2, 1, 0]), 1)

    def test_like_ranks_by_number(self):
        self.assertEqual(first_of([4, 4, 4], [2, 1]), 1)
        self.assertEqual(first_of([4, 4, 4], [1, 2, 0]), 0)
        self.assertEqual(first_of([4, 1, 1, 4], [3, 2, 1, 0]), 1)

    def test_one_line(self):
        self.assertEqual(first_of([7], [0]), 0)
        self.assertEqual(first_of([7, 8], [1]), 1)

    def test_no_line(self):
        self.assertIsNone(first_of([7], []))
        self.assertIsNone(first_of([0] * 60, []))

    def test_the_greatest_rank(self):
        self.assertEqual(first_of([GREATEST, GREATEST], [1]), 1)
        self.assertEqual(first_of([GREATEST, GREATEST], [1, 0]), 0)
        self.assertEqual(first_of([GREATEST, GREATEST - 1], [0, 1]), 1)

    def test_sixty_lines(self):
        falling = [GREATEST - number for number in range(60)]
        self.assertEqual(first_of(falling, list(range(60))), 59)
        self.assertEqual(first_of([0] * 60, list(range(59, -1, -1))), 0)

    def test_it_heads_the_order(self):
        ranks = [2, 1, 2, 0, 1]
        for many in range(1, 6):
            for lines in itertools.permutations(range(5), many):
                self.assertEqual(first_of(ranks, list(lines)), in_order(ranks, list(lines))[0])

    def test_what_is_handed_in_stays(self):
        ranks, lines = [5, 3, 9, 0], [0, 2, 1, 3]
        first_of(ranks, lines)
        self.assertEqual(ranks, [5, 3, 9, 0])
        self.assertEqual(lines, [0, 2, 1, 3])


if __name__ == "__main__":
    unittest.main()
